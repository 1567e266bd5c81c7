/- The walk of sponsionlaw11.ProofMakes over this translation (written by gen-proofmakeslaw.py). -/
import Derived.Test.YtjkhboejhcbdpaaDoorRef11Make
import Derived.Test.YtjkhboejhcbdpaaDoorProofFit
import Derived.Test.YtjkhboejhcbdpaaDoorProofLives
import Derived.Test.YtjkhboejhcbdpaaDoorClassy
import Derived.OpenShut
namespace Go.Proofs.YtjkhboejhcbdpaaDoor
open Go.RowKit Go.Lib
attribute [local go_sem] setCell_drewN alloc_drewN eqProof

theorem Bxs.start {w w' : World} (h : Below w.heap.size w w') : Bxs w w' [] := ⟨fun _ h => by simp at h, fun _ h => by simp at h, fun _ _ _ _ h => by simp at h, h⟩
theorem fitN_le (d n : Nat) : fitN d n ≤ n ∧ fitN d n ≤ 30 ∧ fitN d n ≤ 2 ^ d := by unfold fitN; omega
set_option maxRecDepth 100000 in
set_option maxHeartbeats 8000000 in
theorem proofMakes_walk (a : Int) (ao : Option Addr) (cap : Nat) (L : List Hs) (n i : Int) (w : World) (ha : (Lit.int .u8 a).wf = true) (hL : L.length ≤ cap ∧ cap ≤ maxLen ∧ (ao = none → cap = 0) ∧ Hl w ao L ∧ Hoks L) (hn : (Lit.int .u64 n).wf = true) (hi : (Lit.int .u64 i).wf = true)
    (ht : Tab w 1) (ht2 : Tab w 0) :
    Calls Tryd.prog 3 #[.int .u8 a, .slice ao L.length cap, .int .u64 n, .int .u64 i] w fun e w' => e = .returned (.bool true) ∧ Below w.heap.size w w' := by
  obtain ⟨l1, l2, l3, l4, l5⟩ := hL
  have HT := hide ht; have HT2 := hide ht2; have HL := hide l4; have HOK := hide l5
  have HFORM : Hid (ao = none ∨ ∃ b, ao = some b) := (by cases ao; exact .inl rfl; exact .inr ⟨_, rfl⟩)
  have HNOC := hide l3
  obtain ⟨a0, a1⟩ := Go.bounds_u8 ha
  obtain ⟨n0, n1⟩ := Go.bounds_u64 hn
  obtain ⟨i0, i1⟩ := Go.bounds_u64 hi
  obtain ⟨d, hd⟩ : ∃ d : Nat, a % 33 = (d : Int) := ⟨(a % 33).toNat, by omega⟩
  have HD : Hid (d ≤ 32) := by show _ ≤ _; omega
  obtain ⟨n, rfl⟩ : ∃ k : Nat, n = (k : Int) := ⟨n.toNat, by omega⟩
  obtain ⟨i, rfl⟩ : ∃ k : Nat, i = (k : Int) := ⟨i.toNat, by omega⟩
  have hfit := fun (w1 : World) => fit_any (w := w1) a d a0 (by omega) hd ao cap L l1 l2 l3
  obtain ⟨m, hm⟩ : ∃ m, fitN d L.length = m := ⟨_, rfl⟩
  have hfl := fitN_le d L.length
  rw [hm] at hfit hfl
  have HFIT := hide hfit
  unfold maxLen at l2
  have hmc : m ≤ cap := by omega
  have hmi : (m : Int) ≤ 30 := by omega
  have hlen : (L.take m).length = m := by rw [List.length_take]; omega
  obtain ⟨M, hM⟩ : ∃ M, L.take m = M := ⟨_, rfl⟩
  have HMOK : Hid (Hoks M) := by rw [← hM]; exact fun f hf => HOK.out f (List.mem_of_mem_take hf)
  have HML : Hid (Hl w ao M) := by rw [← hM]; exact HL.out.take m
  rw [hM] at hlen
  have hmade := fun (w1 : World) (h1 : Hl w1 ao M) (h2 : Tab w1 1) => made_any (w := w1) d HD.out ao cap M h1 HMOK.out (by omega) (by omega) h2
  rw [hlen] at hmade
  have HMADE := hide hmade
  have HLEN := hide hlen
  have HP30 : Hid (m ≤ 30 ∧ m ≤ 2 ^ d) := ⟨hfl.2.1, hfl.2.2⟩
  clear ht ht2 l1 l3 l4 l5 ha hn hi a0 a1 n0 i0 hfit hm hfl hM hlen hmade hd HL HOK
  go_enter Tryd.func3, Tryd.ntmps3
  go_wp2_with fail
  refine (lives11_any HT.out).mono ?_
  rintro e w2 ⟨rfl, hb⟩
  have B := hide hb
  clear hb
  go_wp2_with fail
  refine (HFIT.out w2).mono ?_
  rintro e w3 ⟨rfl, hb⟩
  replace B := hide (bOn B.out hb)
  clear hb
  go_wp2_with fail
  refine (HMADE.out w3 (HML.out.below B.out) (HT.out.below B.out)).mono ?_
  rintro e w4 ⟨rfl, hmd⟩
  obtain ⟨S, hT, _⟩ := hmd.tree
  have TR := hide hT
  replace B := hide (bOn B.out hmd.below)
  clear hmd hT
  go_wp2_with fail
  have hzp := fun w => zeroPf w
  obtain ⟨Z, hZ⟩ : ∃ Z, pz = Z := ⟨_, rfl⟩
  have HZ := hide hZ
  rw [hZ] at hzp
  clear hZ
  generalize w3.heap.size = gt at *
  by_cases hA : m < n
  · have hAi : (m : Int) < (n : Int) := by omega
    have h0 := make_arg TR.out (n : Int) (i : Int) (by rw [HLEN.out]; omega)
    rw [HZ.out] at h0
    refine h0.mono ?_
    clear h0
    rintro e w5 ⟨rfl, hb⟩
    replace B := hide (bOn B.out hb)
    clear hb
    have E1 : Hid (Bxs w (w5.alloc (.cells (rowV 1024 (pc Z)).toArray 29)) [(w5.heap.size, 1024, pc Z)]) := (Bxs.start B.out).add rfl (BRow.box w5 1024 _ _ rfl)
    go_wp2_with (refine wpList_store_stop rfl 29 _ _ rfl (w5.heap.size) 0 (rowV 1024 (pc Z)) rfl rfl ((E1.out.get 0 rfl).thereA (pc Z)) (info_pfA (pc Z)) (rowV_oneA _ _) ?_)
    intro w6 hw6
    have E : Hid (Bxs w w6 [(w5.heap.size, 1024, pc Z)]) := by
      show Bxs _ _ _
      rw [hw6.out]; exact E1.out.put 0 rfl (pc Z)
    clear hw6 E1
    generalize w5.heap.size = g5 at *
    have E1 : Hid (Bxs w (w6.alloc (.cells (rowV 1024 (pc Z)).toArray 29)) [(w6.heap.size, 1024, pc Z), (g5, 1024, pc Z)]) := E.out.add rfl (BRow.box w6 1024 _ _ rfl)
    go_wp2_with (refine wpList_store_stop rfl 29 _ _ rfl (w6.heap.size) 0 (rowV 1024 (pc Z)) rfl rfl ((E1.out.get 0 rfl).thereA (pc Z)) (info_pfA (pc Z)) (rowV_oneA _ _) ?_)
    intro w7 hw7
    replace E : Hid (Bxs w w7 [(w6.heap.size, 1024, pc Z), (g5, 1024, pc Z)]) := by
      show Bxs _ _ _
      rw [hw7.out]; exact E1.out.put 0 rfl (pc Z)
    clear hw7 E1
    generalize w6.heap.size = g6 at *
    go_wp2_with fail
    have h0 := make_nil (w := w7) 0 0
    rw [HZ.out] at h0
    refine h0.mono ?_
    clear h0
    rintro e w8 ⟨rfl, hb⟩
    replace E := hide (E.out.after hb)
    clear hb
    have E1 : Hid (Bxs w (w8.alloc (.cells (rowV 1024 (pc Z)).toArray 29)) [(w8.heap.size, 1024, pc Z), (g6, 1024, pc Z), (g5, 1024, pc Z)]) := E.out.add rfl (BRow.box w8 1024 _ _ rfl)
    go_wp2_with (refine wpList_store_stop rfl 29 _ _ rfl (w8.heap.size) 0 (rowV 1024 (pc Z)) rfl rfl ((E1.out.get 0 rfl).thereA (pc Z)) (info_pfA (pc Z)) (rowV_oneA _ _) ?_)
    intro w9 hw9
    replace E : Hid (Bxs w w9 [(w8.heap.size, 1024, pc Z), (g6, 1024, pc Z), (g5, 1024, pc Z)]) := by
      show Bxs _ _ _
      rw [hw9.out]; exact E1.out.put 0 rfl (pc Z)
    clear hw9 E1 hzp
    generalize w8.heap.size = g8 at *
    have hse : ∀ w, (Op.equalIn 10000 29 (.agg (rowV 1024 (pc Z)).toArray) (.agg (rowV 1024 (pc Z)).toArray)).run Tryd.prog w = .ok true w := fun w => by rw [eqProof, sameP_self]
    go_wp2_with (first
      | refine wpList_load_want 29 _ rfl (g5) 0 rfl (rowV 1024 (pc Z)) _ (E.out.get 2 rfl).range Tryd.underlying29 rfl (info_pf _) (by kernel_rfl) ?_
      | refine wpList_load_want 29 _ rfl (g6) 0 rfl (rowV 1024 (pc Z)) _ (E.out.get 1 rfl).range Tryd.underlying29 rfl (info_pf _) (by kernel_rfl) ?_)
    go_ret
    exact ⟨rfl, E.out.below⟩
  have hAi : (n : Int) ≤ (m : Int) := by omega
  by_cases hB : n ≤ i
  · have hBi : (n : Int) ≤ (i : Int) := by omega
    have h0 := make_none TR.out (n : Int) (i : Int) (by rw [HLEN.out]; omega) (by omega)
    rw [HZ.out] at h0
    refine h0.mono ?_
    clear h0
    rintro e w5 ⟨rfl, hb⟩
    replace B := hide (bOn B.out hb)
    clear hb
    have E1 : Hid (Bxs w (w5.alloc (.cells (rowV 1024 (pc Z)).toArray 29)) [(w5.heap.size, 1024, pc Z)]) := (Bxs.start B.out).add rfl (BRow.box w5 1024 _ _ rfl)
    go_wp2_with (refine wpList_store_stop rfl 29 _ _ rfl (w5.heap.size) 0 (rowV 1024 (pc Z)) rfl rfl ((E1.out.get 0 rfl).thereA (pc Z)) (info_pfA (pc Z)) (rowV_oneA _ _) ?_)
    intro w6 hw6
    have E : Hid (Bxs w w6 [(w5.heap.size, 1024, pc Z)]) := by
      show Bxs _ _ _
      rw [hw6.out]; exact E1.out.put 0 rfl (pc Z)
    clear hw6 E1
    generalize w5.heap.size = g5 at *
    have E1 : Hid (Bxs w (w6.alloc (.cells (rowV 1024 (pc Z)).toArray 29)) [(w6.heap.size, 1024, pc Z), (g5, 1024, pc Z)]) := E.out.add rfl (BRow.box w6 1024 _ _ rfl)
    go_wp2_with (refine wpList_store_stop rfl 29 _ _ rfl (w6.heap.size) 0 (rowV 1024 (pc Z)) rfl rfl ((E1.out.get 0 rfl).thereA (pc Z)) (info_pfA (pc Z)) (rowV_oneA _ _) ?_)
    intro w7 hw7
    replace E : Hid (Bxs w w7 [(w6.heap.size, 1024, pc Z), (g5, 1024, pc Z)]) := by
      show Bxs _ _ _
      rw [hw7.out]; exact E1.out.put 0 rfl (pc Z)
    clear hw7 E1
    generalize w6.heap.size = g6 at *
    go_wp2_with fail
    have h0 := make_nil (w := w7) 0 0
    rw [HZ.out] at h0
    refine h0.mono ?_
    clear h0
    rintro e w8 ⟨rfl, hb⟩
    replace E := hide (E.out.after hb)
    clear hb
    have E1 : Hid (Bxs w (w8.alloc (.cells (rowV 1024 (pc Z)).toArray 29)) [(w8.heap.size, 1024, pc Z), (g6, 1024, pc Z), (g5, 1024, pc Z)]) := E.out.add rfl (BRow.box w8 1024 _ _ rfl)
    go_wp2_with (refine wpList_store_stop rfl 29 _ _ rfl (w8.heap.size) 0 (rowV 1024 (pc Z)) rfl rfl ((E1.out.get 0 rfl).thereA (pc Z)) (info_pfA (pc Z)) (rowV_oneA _ _) ?_)
    intro w9 hw9
    replace E : Hid (Bxs w w9 [(w8.heap.size, 1024, pc Z), (g6, 1024, pc Z), (g5, 1024, pc Z)]) := by
      show Bxs _ _ _
      rw [hw9.out]; exact E1.out.put 0 rfl (pc Z)
    clear hw9 E1 hzp
    generalize w8.heap.size = g8 at *
    have hse : ∀ w, (Op.equalIn 10000 29 (.agg (rowV 1024 (pc Z)).toArray) (.agg (rowV 1024 (pc Z)).toArray)).run Tryd.prog w = .ok true w := fun w => by rw [eqProof, sameP_self]
    go_wp2_with (first
      | refine wpList_load_want 29 _ rfl (g5) 0 rfl (rowV 1024 (pc Z)) _ (E.out.get 2 rfl).range Tryd.underlying29 rfl (info_pf _) (by kernel_rfl) ?_
      | refine wpList_load_want 29 _ rfl (g6) 0 rfl (rowV 1024 (pc Z)) _ (E.out.get 1 rfl).range Tryd.underlying29 rfl (info_pf _) (by kernel_rfl) ?_)
    go_ret
    exact ⟨rfl, E.out.below⟩
  have hBi : (i : Int) < (n : Int) := by omega
  refine (make_yes TR.out n i (by rw [HLEN.out]; omega) (by omega) (HT.out.below B.out)).mono ?_
  obtain ⟨R, hR⟩ : ∃ R, mp (M.take n) d i = R := ⟨_, rfl⟩
  have HRR := hide hR
  rw [hR]
  clear hR
  rintro e w5 ⟨rfl, hb⟩
  replace B := hide (bOn B.out hb)
  clear hb
  have E1 : Hid (Bxs w (w5.alloc (.cells (rowV 1024 (pc Z)).toArray 29)) [(w5.heap.size, 1024, pc Z)]) := (Bxs.start B.out).add rfl (BRow.box w5 1024 _ _ rfl)
  go_wp2_with (refine wpList_store_stop rfl 29 _ _ rfl (w5.heap.size) 0 (rowV 1024 (pc R)) rfl rfl ((E1.out.get 0 rfl).thereA (pc R)) (info_pfA (pc R)) (rowV_oneA _ _) ?_)
  intro w6 hw6
  have E : Hid (Bxs w w6 [(w5.heap.size, 1024, pc R)]) := by
    show Bxs _ _ _
    rw [hw6.out]; exact E1.out.put 0 rfl (pc R)
  clear hw6 E1
  generalize w5.heap.size = g5 at *
  have E1 : Hid (Bxs w (w6.alloc (.cells (rowV 1024 (pc Z)).toArray 29)) [(w6.heap.size, 1024, pc Z), (g5, 1024, pc R)]) := E.out.add rfl (BRow.box w6 1024 _ _ rfl)
  go_wp2_with (refine wpList_store_stop rfl 29 _ _ rfl (w6.heap.size) 0 (rowV 1024 (pc Z)) rfl rfl ((E1.out.get 0 rfl).thereA (pc Z)) (info_pfA (pc Z)) (rowV_oneA _ _) ?_)
  intro w7 hw7
  replace E : Hid (Bxs w w7 [(w6.heap.size, 1024, pc Z), (g5, 1024, pc R)]) := by
    show Bxs _ _ _
    rw [hw7.out]; exact E1.out.put 0 rfl (pc Z)
  clear hw7 E1
  generalize w6.heap.size = g6 at *
  go_wp2_with fail
  have h0 := make_nil (w := w7) 0 0
  rw [HZ.out] at h0
  refine h0.mono ?_
  clear h0
  rintro e w8 ⟨rfl, hb⟩
  replace E := hide (E.out.after hb)
  clear hb
  have E1 : Hid (Bxs w (w8.alloc (.cells (rowV 1024 (pc Z)).toArray 29)) [(w8.heap.size, 1024, pc Z), (g6, 1024, pc Z), (g5, 1024, pc R)]) := E.out.add rfl (BRow.box w8 1024 _ _ rfl)
  go_wp2_with (refine wpList_store_stop rfl 29 _ _ rfl (w8.heap.size) 0 (rowV 1024 (pc Z)) rfl rfl ((E1.out.get 0 rfl).thereA (pc Z)) (info_pfA (pc Z)) (rowV_oneA _ _) ?_)
  intro w9 hw9
  replace E : Hid (Bxs w w9 [(w8.heap.size, 1024, pc Z), (g6, 1024, pc Z), (g5, 1024, pc R)]) := by
    show Bxs _ _ _
    rw [hw9.out]; exact E1.out.put 0 rfl (pc Z)
  clear hw9 E1 hzp
  generalize w8.heap.size = g8 at *
  have hse : ∀ w, (Op.equalIn 10000 29 (.agg (rowV 1024 (pc R)).toArray) (.agg (rowV 1024 (pc R)).toArray)).run Tryd.prog w = .ok true w := fun w => by rw [eqProof, sameP_self]
  have hnl : (M.take n).length = n := by rw [List.length_take, HLEN.out]; omega
  have hr := fun (w1 : World) (h1 : Hl w1 ao (M.take n)) (h2 : Tab w1 0) => rmake_any (w := w1) d HD.out ao cap (M.take n) i h1 (fun f hf => HMOK.out f (List.mem_of_mem_take hf)) (by rw [hnl]; have := HP30.out.1; omega) (by have := HP30.out.2; omega) h2
  rw [hnl, HRR.out] at hr
  have HREF := hide hr
  have hnc : (n : Int) ≤ (cap : Int) := by omega
  clear hr hnl
  go_wp2_with fail
  replace E := hide (E.out.after (bMe w9).drew)
  refine wp_region_held_drew (S := fun w1 => Bxs w w1 [(g8, 1024, pc Z), (g6, 1024, pc Z), (g5, 1024, pc R)]) (by kernel_rfl) E.out (fun _ => ?_)
  generalize w9.drew = wa at *
  refine tk0 (v := .int .i64 0) (by kernel_rfl) (by kernel_rfl) (by kernel_rfl) (fun _ _ _ h => h) E.out (Or.inl ⟨by rfl, fun w hw => by go_simp; try (with_reducible rfl)⟩) ?_
  simp only [Act.put, List.setIfInBounds_toArray, List.set_cons_zero, List.set_cons_succ]
  refine tk1 (v := .bool true) (by kernel_rfl) (by kernel_rfl) (by kernel_rfl) (fun _ _ _ h => h) E.out (Or.inl ⟨by rfl, fun w hw => by go_simp; try (with_reducible rfl)⟩) ?_
  simp only [Act.put, List.setIfInBounds_toArray, List.set_cons_zero, List.set_cons_succ]
  refine tk2 (v := .bool true) (by kernel_rfl) (by kernel_rfl) (by kernel_rfl) (fun _ _ _ h => h) E.out (Or.inl ⟨by rfl, fun w hw => by go_simp; try (with_reducible rfl)⟩) ?_
  simp only [Act.put, List.setIfInBounds_toArray, List.set_cons_zero, List.set_cons_succ]
  refine tk3 (by kernel_rfl) (by kernel_rfl) (by kernel_rfl) (fun _ _ _ h => h) E.out (yieldsIf_load_mid (by rfl) _ _ rfl (g5) (0) rfl (rowV 1024 (pc R)) _ (fun _ hw => (hw.get 2 rfl).range) Tryd.underlying29 rfl (info_pf _)) ?_
  simp only [Act.put, List.setIfInBounds_toArray, List.set_cons_zero, List.set_cons_succ]
  refine tk4 (v := .int .i64 (d : Int)) (by kernel_rfl) (by kernel_rfl) (by kernel_rfl) (fun _ _ _ h => h) E.out (Or.inl ⟨by rfl, fun w hw => by go_simp; try (with_reducible rfl)⟩) ?_
  simp only [Act.put, List.setIfInBounds_toArray, List.set_cons_zero, List.set_cons_succ]
  refine tk5 (v := .slice ao m cap) (by kernel_rfl) (by kernel_rfl) (by kernel_rfl) (fun _ _ _ h => h) E.out (Or.inl ⟨by rfl, fun w hw => by go_simp; try (with_reducible rfl)⟩) ?_
  simp only [Act.put, List.setIfInBounds_toArray, List.set_cons_zero, List.set_cons_succ]
  refine tk6 (v := .int .u64 (n : Int)) (by kernel_rfl) (by kernel_rfl) (by kernel_rfl) (fun _ _ _ h => h) E.out (Or.inl ⟨by rfl, fun w hw => by go_simp; try (with_reducible rfl)⟩) ?_
  simp only [Act.put, List.setIfInBounds_toArray, List.set_cons_zero, List.set_cons_succ]
  refine tk7 (v := .slice ao n cap) (by kernel_rfl) (by kernel_rfl) (by kernel_rfl) (fun _ _ _ h => h) E.out (Or.inl ⟨by rfl, fun w hw => by rcases HFORM.out with rfl | ⟨b2, rfl⟩; (obtain rfl := HNOC.out rfl; obtain hm0 : n = 0 := (by omega); subst hm0; go_simp; try (with_reducible rfl)); (by_cases hc0 : cap = 0; (subst hc0; obtain hm0 : n = 0 := (by omega); subst hm0; go_simp; try (with_reducible rfl)); (go_simp; try (with_reducible rfl)))⟩) ?_
  simp only [Act.put, List.setIfInBounds_toArray, List.set_cons_zero, List.set_cons_succ]
  refine tk8 (v := .int .u64 (i : Int)) (by kernel_rfl) (by kernel_rfl) (by kernel_rfl) (fun _ _ _ h => h) E.out (Or.inl ⟨by rfl, fun w hw => by go_simp; try (with_reducible rfl)⟩) ?_
  simp only [Act.put, List.setIfInBounds_toArray, List.set_cons_zero, List.set_cons_succ]
  refine wpAnyH_ready (rs := [9]) (by kernel_rfl) (by simp) ?_
  refine rd9 (fun K hK => ?_) AllReadyH.nil
  go_simp
  refine (HREF.out wa ((HML.out.take n).below E.out.below) (HT2.out.below E.out.below)).mono ?_
  rintro e wb ⟨rfl, hb⟩
  simp only []
  replace E := hide (E.out.after hb)
  clear hb
  refine hK.out _ _ E.out (fun _ => ?_)
  clear hK K
  refine tk10 (v := .bool true) (by kernel_rfl) (by kernel_rfl) (by kernel_rfl) (fun _ _ _ h => h) E.out (Or.inl ⟨by rfl, fun w hw => by go_simp; try (with_reducible rfl)⟩) ?_
  simp only [Act.put, List.setIfInBounds_toArray, List.set_cons_zero, List.set_cons_succ]
  refine tk11 (v := .bool true) (by kernel_rfl) (by kernel_rfl) (by kernel_rfl) (fun _ _ _ h => h) E.out (Or.inl ⟨by rfl, fun w hw => by go_simp; try (with_reducible rfl)⟩) ?_
  simp only [Act.put, List.setIfInBounds_toArray, List.set_cons_zero, List.set_cons_succ]
  refine tk12 (v := .bool true) (by kernel_rfl) (by kernel_rfl) (by kernel_rfl) (fun _ _ _ h => h) E.out (Or.inl ⟨by rfl, fun w hw => by go_simp; try (with_reducible rfl)⟩) ?_
  simp only [Act.put, List.setIfInBounds_toArray, List.set_cons_zero, List.set_cons_succ]
  refine wpAnyH_done (by kernel_rfl) ?_ _
  try simp only [Act.put]
  go_wp2
  go_ret
  exact ⟨rfl, E.out.below⟩
end Go.Proofs.YtjkhboejhcbdpaaDoor
