/- The walk of sponsionlaw11.ProofClimbs over this translation (written by gen-proofclimbslaw.py). -/
import Derived.Test.YtjkhboejhcbdpaaDoorProofCheck
import Derived.Test.YtjkhboejhcbdpaaDoorRef11Climb
import Derived.Test.YtjkhboejhcbdpaaDoorProofLives
import Derived.Test.YtjkhboejhcbdpaaDoorClassy
import Derived.OpenShut
namespace Go.Proofs.YtjkhboejhcbdpaaDoor
open Go.RowKit Go.Lib
attribute [local go_sem] setCell_drewN alloc_drewN eqHash sameH_self

set_option maxRecDepth 100000 in
set_option maxHeartbeats 8000000 in
theorem proofClimbs_walk (a : Int) (root : Hs) (n i : Int) (leaf : Hs) (P : Pf) (w : World) (ha : (Lit.int .i64 a).wf = true) (_hr : ∀ j, 0 ≤ root j ∧ root j < 256) (hn : (Lit.int .u64 n).wf = true) (hi : (Lit.int .u64 i).wf = true) (hl : ∀ j, 0 ≤ leaf j ∧ leaf j < 256) (hP : Pok P)
    (ht : Tab w 1) (ht2 : Tab w 0) :
    Calls Tryd.prog 4 #[.int .i64 a, .agg (rowV 32 root).toArray, .int .u64 n, .int .u64 i, .agg (rowV 32 leaf).toArray, .agg (rowV 1024 (pc P)).toArray] w fun e w' => e = .returned (.bool true) ∧ Below w.heap.size w w' := by
  have HT := hide ht; have HT2 := hide ht2; have HLO := hide hl; have HPO := hide hP
  obtain ⟨a0, a1⟩ := Go.bounds_i64 ha
  obtain ⟨n0, n1⟩ := Go.bounds_u64 hn
  obtain ⟨i0, i1⟩ := Go.bounds_u64 hi
  have HA0 : Hid (-9223372036854775808 ≤ a) := by show _ ≤ _; omega
  have HA1 : Hid (a ≤ 9223372036854775807) := by show _ ≤ _; omega
  obtain ⟨m, rfl⟩ : ∃ m : Nat, n = (m : Int) := ⟨n.toNat, by omega⟩
  obtain ⟨k, rfl⟩ : ∃ k : Nat, i = (k : Int) := ⟨i.toNat, by omega⟩
  have HI : Hid (k ≤ 18446744073709551615) := by show _ ≤ _; omega
  have E0 : Hid (Bxs w (((w.alloc (.cells (rowV 32 root).toArray 28)).alloc (.cells (rowV 32 leaf).toArray 28)).alloc (.cells (rowV 1024 (pc P)).toArray 29)) [(w.heap.size + 2, 1024, pc P), (w.heap.size + 1, 32, leaf), (w.heap.size, 32, root)]) :=
    (((Bxs.none w).add rfl (BRow.box w 32 root _ rfl)).add (by simp) (BRow.box _ 32 leaf _ (by simp))).add (by simp) (BRow.box _ 1024 (pc P) _ (by simp))
  clear ht ht2 hl hP ha hn hi a0 a1 n0 n1 i0 i1
  go_enter Tryd.func4, Tryd.ntmps4
  go_wp2_with fail
  generalize ((w.alloc (.cells (rowV 32 root).toArray 28)).alloc (.cells (rowV 32 leaf).toArray 28)).alloc (.cells (rowV 1024 (pc P)).toArray 29) = w1 at *
  refine (lives11_any (HT.out.below E0.out.below)).mono ?_
  rintro e w2 ⟨rfl, hb⟩
  replace E0 := hide (E0.out.after hb)
  clear hb
  go_wp2_with (first
    | refine wpList_load_mid rfl 29 _ rfl (w.heap.size + 2) 0 rfl (rowV 1024 (pc P)) _ (E0.out.get 0 rfl).range Tryd.underlying29 rfl (info_pf _) ?_
    | refine wpList_load_mid rfl 28 _ rfl (w.heap.size + 1) 0 rfl (rowV 32 leaf) _ (E0.out.get 1 rfl).range Tryd.underlying28 rfl (info_hash32 _) ?_)
  refine (climb_any a k leaf P HA0.out HA1.out HI.out HLO.out HPO.out (HT.out.below E0.out.below)).mono ?_
  rintro e w3 ⟨rfl, hb⟩
  replace E0 := hide (E0.out.after hb)
  clear hb
  obtain ⟨H, hH⟩ : ∃ H, ch a k leaf P = H := ⟨_, rfl⟩
  obtain ⟨c, hc⟩ : ∃ c, ce a k P = c := ⟨_, rfl⟩
  have hcc : c = 0 ∨ c = 1 ∨ c = 6 ∨ c = 10 := by rw [← hc]; exact ce_cases a k P
  have HC := hide hc; have HHH := hide hH
  rw [hH, hc]
  have E1 : Hid (Bxs w (w3.alloc (.cells #[.int .u8 0, .int .u8 0, .int .u8 0, .int .u8 0, .int .u8 0, .int .u8 0, .int .u8 0, .int .u8 0, .int .u8 0, .int .u8 0, .int .u8 0, .int .u8 0, .int .u8 0, .int .u8 0, .int .u8 0, .int .u8 0, .int .u8 0, .int .u8 0, .int .u8 0, .int .u8 0, .int .u8 0, .int .u8 0, .int .u8 0, .int .u8 0, .int .u8 0, .int .u8 0, .int .u8 0, .int .u8 0, .int .u8 0, .int .u8 0, .int .u8 0, .int .u8 0] 28)) [(w3.heap.size, 32, fun _ => 0), (w.heap.size + 2, 1024, pc P), (w.heap.size + 1, 32, leaf), (w.heap.size, 32, root)]) := E0.out.new (BRow.zeros32 w3 rfl)
  clear hc hH
  go_wp2_with (refine wpList_store_stop rfl 28 _ _ rfl (w3.heap.size) 0 (rowV 32 H) rfl rfl ((E1.out.get 0 rfl).thereA H) (info_hash32A H) (rowV_oneA _ _) ?_)
  intro w4 hw4
  have E : Hid (Bxs w w4 [(w3.heap.size, 32, H), (w.heap.size + 2, 1024, pc P), (w.heap.size + 1, 32, leaf), (w.heap.size, 32, root)]) := by
    show Bxs _ _ _
    rw [hw4.out]; exact E1.out.put 0 rfl H
  clear hw4 E1 E0
  generalize w3.heap.size = g at *
  go_wp2_with (first
    | refine wpList_load_mid rfl 29 _ rfl (w.heap.size + 2) 0 rfl (rowV 1024 (pc P)) _ (E.out.get 1 rfl).range Tryd.underlying29 rfl (info_pf _) ?_
    | refine wpList_load_mid rfl 28 _ rfl (w.heap.size + 1) 0 rfl (rowV 32 leaf) _ (E.out.get 2 rfl).range Tryd.underlying28 rfl (info_hash32 _) ?_)
  refine (rclimb_any a k leaf P HA0.out HA1.out HI.out HLO.out HPO.out (HT2.out.below E.out.below)).mono ?_
  rintro e w5 ⟨rfl, hb⟩
  rw [HHH.out, HC.out]
  replace E := hide (E.out.after hb)
  clear hb
  have E1 : Hid (Bxs w (w5.alloc (.cells #[.int .u8 0, .int .u8 0, .int .u8 0, .int .u8 0, .int .u8 0, .int .u8 0, .int .u8 0, .int .u8 0, .int .u8 0, .int .u8 0, .int .u8 0, .int .u8 0, .int .u8 0, .int .u8 0, .int .u8 0, .int .u8 0, .int .u8 0, .int .u8 0, .int .u8 0, .int .u8 0, .int .u8 0, .int .u8 0, .int .u8 0, .int .u8 0, .int .u8 0, .int .u8 0, .int .u8 0, .int .u8 0, .int .u8 0, .int .u8 0, .int .u8 0, .int .u8 0] 28)) [(w5.heap.size, 32, fun _ => 0), (g, 32, H), (w.heap.size + 2, 1024, pc P), (w.heap.size + 1, 32, leaf), (w.heap.size, 32, root)]) := E.out.new (BRow.zeros32 w5 rfl)
  go_wp2_with (refine wpList_store_stop rfl 28 _ _ rfl (w5.heap.size) 0 (rowV 32 H) rfl rfl ((E1.out.get 0 rfl).thereA H) (info_hash32A H) (rowV_oneA _ _) ?_)
  intro w6 hw6
  replace E : Hid (Bxs w w6 [(w5.heap.size, 32, H), (g, 32, H), (w.heap.size + 2, 1024, pc P), (w.heap.size + 1, 32, leaf), (w.heap.size, 32, root)]) := by
    show Bxs _ _ _
    rw [hw6.out]; exact E1.out.put 0 rfl H
  clear hw6 E1
  generalize w5.heap.size = g5 at *
  have hse : ∀ w, (Op.equalIn 10000 28 (.agg (rowV 32 H).toArray) (.agg (rowV 32 H).toArray)).run Tryd.prog w = .ok true w := fun w => by rw [eqHash, sameH_self]
  have hsr := fun w => eqHash H root w
  by_cases h0 : c = 0
  · subst h0
    clear hcc
    by_cases hin : m ≤ k
    · have hini : (m : Int) ≤ (k : Int) := by omega
      have K1 : Hid (ck a root m k leaf P = 10) := by show _ = _; rw [ck, if_pos HC.out, if_pos hin]
      have K2 : Hid (ck a H m k leaf P = 10) := by show _ = _; rw [ck, if_pos HC.out, if_pos hin]
      clear hsr
      go_wp2_with (first
        | refine wpList_load_mid rfl 28 _ rfl (g) 0 rfl (rowV 32 H) _ (E.out.get 1 rfl).range Tryd.underlying28 rfl (info_hash32 _) ?_
        | refine wpList_load_mid rfl 28 _ rfl (g5) 0 rfl (rowV 32 H) _ (E.out.get 0 rfl).range Tryd.underlying28 rfl (info_hash32 _) ?_
        | refine wpList_load_mid rfl 28 _ rfl (w.heap.size) 0 rfl (rowV 32 root) _ (E.out.get 4 rfl).range Tryd.underlying28 rfl (info_hash32 _) ?_
        | refine wpList_load_mid rfl 28 _ rfl (w.heap.size + 1) 0 rfl (rowV 32 leaf) _ (E.out.get 3 rfl).range Tryd.underlying28 rfl (info_hash32 _) ?_
        | refine wpList_load_mid rfl 29 _ rfl (w.heap.size + 2) 0 rfl (rowV 1024 (pc P)) _ (E.out.get 2 rfl).range Tryd.underlying29 rfl (info_pf _) ?_)
      refine (check_any a root m k leaf P HA0.out HA1.out HI.out HLO.out HPO.out (HT.out.below E.out.below)).mono ?_
      rintro e w7 ⟨rfl, hb⟩
      replace E := hide (E.out.after hb)
      clear hb
      rw [K1.out]
      go_wp2_with (first
        | refine wpList_load_want 28 _ rfl (g) 0 rfl (rowV 32 H) _ (E.out.get 1 rfl).range Tryd.underlying28 rfl (info_hash32 _) rfl ?_
        | refine wpList_load_want 28 _ rfl (w.heap.size + 1) 0 rfl (rowV 32 leaf) _ (E.out.get 3 rfl).range Tryd.underlying28 rfl (info_hash32 _) rfl ?_
        | refine wpList_load_want 29 _ rfl (w.heap.size + 2) 0 rfl (rowV 1024 (pc P)) _ (E.out.get 2 rfl).range Tryd.underlying29 rfl (info_pf _) rfl ?_)
      refine (check_any a H m k leaf P HA0.out HA1.out HI.out HLO.out HPO.out (HT.out.below E.out.below)).mono ?_
      rintro e w8 ⟨rfl, hb⟩
      replace E := hide (E.out.after hb)
      clear hb
      rw [K2.out]
      go_wp2
      go_ret
      exact ⟨rfl, E.out.below⟩
    · have hini : (k : Int) < (m : Int) := by omega
      cases hs : sameH H root with
      | true =>
        rw [hs] at hsr
        have K1 : Hid (ck a root m k leaf P = 0) := by show _ = _; rw [ck, if_pos HC.out, if_neg hin, HHH.out, if_pos hs]
        have K2 : Hid (ck a H m k leaf P = 0) := by show _ = _; rw [ck, if_pos HC.out, if_neg hin, HHH.out, if_pos (sameH_self H)]
        go_wp2_with (first
          | refine wpList_load_mid rfl 28 _ rfl (g) 0 rfl (rowV 32 H) _ (E.out.get 1 rfl).range Tryd.underlying28 rfl (info_hash32 _) ?_
          | refine wpList_load_mid rfl 28 _ rfl (g5) 0 rfl (rowV 32 H) _ (E.out.get 0 rfl).range Tryd.underlying28 rfl (info_hash32 _) ?_
          | refine wpList_load_mid rfl 28 _ rfl (w.heap.size) 0 rfl (rowV 32 root) _ (E.out.get 4 rfl).range Tryd.underlying28 rfl (info_hash32 _) ?_
          | refine wpList_load_mid rfl 28 _ rfl (w.heap.size + 1) 0 rfl (rowV 32 leaf) _ (E.out.get 3 rfl).range Tryd.underlying28 rfl (info_hash32 _) ?_
          | refine wpList_load_mid rfl 29 _ rfl (w.heap.size + 2) 0 rfl (rowV 1024 (pc P)) _ (E.out.get 2 rfl).range Tryd.underlying29 rfl (info_pf _) ?_
          | refine wpList_load_want 28 _ rfl (g) 0 rfl (rowV 32 H) _ (E.out.get 1 rfl).range Tryd.underlying28 rfl (info_hash32 _) rfl ?_
          | refine wpList_load_want 28 _ rfl (w.heap.size) 0 rfl (rowV 32 root) _ (E.out.get 4 rfl).range Tryd.underlying28 rfl (info_hash32 _) rfl ?_)
        refine (check_any a root m k leaf P HA0.out HA1.out HI.out HLO.out HPO.out (HT.out.below E.out.below)).mono ?_
        rintro e w7 ⟨rfl, hb⟩
        replace E := hide (E.out.after hb)
        clear hb
        rw [K1.out]
        go_wp2_with (first
          | refine wpList_load_want 28 _ rfl (g) 0 rfl (rowV 32 H) _ (E.out.get 1 rfl).range Tryd.underlying28 rfl (info_hash32 _) rfl ?_
          | refine wpList_load_want 28 _ rfl (w.heap.size + 1) 0 rfl (rowV 32 leaf) _ (E.out.get 3 rfl).range Tryd.underlying28 rfl (info_hash32 _) rfl ?_
          | refine wpList_load_want 29 _ rfl (w.heap.size + 2) 0 rfl (rowV 1024 (pc P)) _ (E.out.get 2 rfl).range Tryd.underlying29 rfl (info_pf _) rfl ?_)
        refine (check_any a H m k leaf P HA0.out HA1.out HI.out HLO.out HPO.out (HT.out.below E.out.below)).mono ?_
        rintro e w8 ⟨rfl, hb⟩
        replace E := hide (E.out.after hb)
        clear hb
        rw [K2.out]
        go_wp2
        go_ret
        exact ⟨rfl, E.out.below⟩
      | false =>
        rw [hs] at hsr
        have K1 : Hid (ck a root m k leaf P = 14) := by show _ = _; rw [ck, if_pos HC.out, if_neg hin, HHH.out, hs, if_neg (by decide)]
        have K2 : Hid (ck a H m k leaf P = 0) := by show _ = _; rw [ck, if_pos HC.out, if_neg hin, HHH.out, if_pos (sameH_self H)]
        go_wp2_with (first
          | refine wpList_load_mid rfl 28 _ rfl (g) 0 rfl (rowV 32 H) _ (E.out.get 1 rfl).range Tryd.underlying28 rfl (info_hash32 _) ?_
          | refine wpList_load_mid rfl 28 _ rfl (g5) 0 rfl (rowV 32 H) _ (E.out.get 0 rfl).range Tryd.underlying28 rfl (info_hash32 _) ?_
          | refine wpList_load_mid rfl 28 _ rfl (w.heap.size) 0 rfl (rowV 32 root) _ (E.out.get 4 rfl).range Tryd.underlying28 rfl (info_hash32 _) ?_
          | refine wpList_load_mid rfl 28 _ rfl (w.heap.size + 1) 0 rfl (rowV 32 leaf) _ (E.out.get 3 rfl).range Tryd.underlying28 rfl (info_hash32 _) ?_
          | refine wpList_load_mid rfl 29 _ rfl (w.heap.size + 2) 0 rfl (rowV 1024 (pc P)) _ (E.out.get 2 rfl).range Tryd.underlying29 rfl (info_pf _) ?_
          | refine wpList_load_want 28 _ rfl (g) 0 rfl (rowV 32 H) _ (E.out.get 1 rfl).range Tryd.underlying28 rfl (info_hash32 _) rfl ?_
          | refine wpList_load_want 28 _ rfl (w.heap.size) 0 rfl (rowV 32 root) _ (E.out.get 4 rfl).range Tryd.underlying28 rfl (info_hash32 _) rfl ?_)
        refine (check_any a root m k leaf P HA0.out HA1.out HI.out HLO.out HPO.out (HT.out.below E.out.below)).mono ?_
        rintro e w7 ⟨rfl, hb⟩
        replace E := hide (E.out.after hb)
        clear hb
        rw [K1.out]
        go_wp2_with (first
          | refine wpList_load_want 28 _ rfl (g) 0 rfl (rowV 32 H) _ (E.out.get 1 rfl).range Tryd.underlying28 rfl (info_hash32 _) rfl ?_
          | refine wpList_load_want 28 _ rfl (w.heap.size + 1) 0 rfl (rowV 32 leaf) _ (E.out.get 3 rfl).range Tryd.underlying28 rfl (info_hash32 _) rfl ?_
          | refine wpList_load_want 29 _ rfl (w.heap.size + 2) 0 rfl (rowV 1024 (pc P)) _ (E.out.get 2 rfl).range Tryd.underlying29 rfl (info_pf _) rfl ?_)
        refine (check_any a H m k leaf P HA0.out HA1.out HI.out HLO.out HPO.out (HT.out.below E.out.below)).mono ?_
        rintro e w8 ⟨rfl, hb⟩
        replace E := hide (E.out.after hb)
        clear hb
        rw [K2.out]
        go_wp2
        go_ret
        exact ⟨rfl, E.out.below⟩
  · have K1 : Hid (ck a root m k leaf P = c) := by show _ = _; rw [ck, if_neg (by rw [HC.out]; exact h0), HC.out]
    have K2 : Hid (ck a H m k leaf P = c) := by show _ = _; rw [ck, if_neg (by rw [HC.out]; exact h0), HC.out]
    clear hsr
    go_wp2_with (first
      | refine wpList_load_mid rfl 28 _ rfl (g) 0 rfl (rowV 32 H) _ (E.out.get 1 rfl).range Tryd.underlying28 rfl (info_hash32 _) ?_
      | refine wpList_load_mid rfl 28 _ rfl (g5) 0 rfl (rowV 32 H) _ (E.out.get 0 rfl).range Tryd.underlying28 rfl (info_hash32 _) ?_
      | refine wpList_load_mid rfl 28 _ rfl (w.heap.size) 0 rfl (rowV 32 root) _ (E.out.get 4 rfl).range Tryd.underlying28 rfl (info_hash32 _) ?_
      | refine wpList_load_mid rfl 28 _ rfl (w.heap.size + 1) 0 rfl (rowV 32 leaf) _ (E.out.get 3 rfl).range Tryd.underlying28 rfl (info_hash32 _) ?_
      | refine wpList_load_mid rfl 29 _ rfl (w.heap.size + 2) 0 rfl (rowV 1024 (pc P)) _ (E.out.get 2 rfl).range Tryd.underlying29 rfl (info_pf _) ?_)
    refine (check_any a root m k leaf P HA0.out HA1.out HI.out HLO.out HPO.out (HT.out.below E.out.below)).mono ?_
    rintro e w7 ⟨rfl, hb⟩
    replace E := hide (E.out.after hb)
    clear hb
    rw [K1.out]
    go_wp2_with (first
      | refine wpList_load_want 28 _ rfl (g) 0 rfl (rowV 32 H) _ (E.out.get 1 rfl).range Tryd.underlying28 rfl (info_hash32 _) rfl ?_
      | refine wpList_load_want 28 _ rfl (w.heap.size + 1) 0 rfl (rowV 32 leaf) _ (E.out.get 3 rfl).range Tryd.underlying28 rfl (info_hash32 _) rfl ?_
      | refine wpList_load_want 29 _ rfl (w.heap.size + 2) 0 rfl (rowV 1024 (pc P)) _ (E.out.get 2 rfl).range Tryd.underlying29 rfl (info_pf _) rfl ?_)
    refine (check_any a H m k leaf P HA0.out HA1.out HI.out HLO.out HPO.out (HT.out.below E.out.below)).mono ?_
    rintro e w8 ⟨rfl, hb⟩
    replace E := hide (E.out.after hb)
    clear hb
    rw [K2.out]
    go_wp2
    go_ret
    exact ⟨rfl, E.out.below⟩
end Go.Proofs.YtjkhboejhcbdpaaDoor
