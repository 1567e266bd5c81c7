/- The walk of sponsionlaw11.ProofStands over this translation (written by gen-proofstandslaw.py). -/
import Derived.Test.YtjkhboejhcbdpaaDoorProofMakesLaw
import Derived.Test.YtjkhboejhcbdpaaDoorProofCheck
import Derived.Test.YtjkhboejhcbdpaaDoorProofCollides
namespace Go.Proofs.YtjkhboejhcbdpaaDoor
open Go.RowKit Go.Lib
attribute [local go_sem] setCell_drewN alloc_drewN eqHash

/-- Climbing with the proof of a place comes to the nodes above it. -/
theorem cl_mp (L : List Hs) (d i : Nat) : ∀ k, k ≤ d → cl i (mp L d i) (tn L 0 i) k = tn L k (i / 2 ^ k)
  | 0, _ => by rw [cl]; simp
  | k + 1, h => by
    have ih := cl_mp L d i k (by omega)
    obtain ⟨r, hr⟩ : ∃ r, i / 2 ^ k = r := ⟨_, rfl⟩
    have hp : mp L d i k = tn L k (sib r) := by unfold mp; rw [if_pos (by omega), hr]
    have hup : i / 2 ^ (k + 1) = r / 2 := by rw [Nat.pow_succ, ← Nat.div_div_eq_div_mul, hr]
    rw [hr] at ih
    rw [hup, tn_next]
    by_cases e : r % 2 = 0
    · rw [cl_even (by rw [hr]; exact e), ih, hp, show 2 * (r / 2) = r by omega]
      unfold sib
      rw [if_pos e]
    · rw [cl_odd (by rw [hr]; exact e), ih, hp, show 2 * (r / 2) + 1 = r by omega]
      unfold sib
      rw [if_neg e, show 2 * (r / 2) = r - 1 by omega]
theorem mp_end (L : List Hs) (d i : Nat) : endB (mp L d i) d = true := (endB_iff _ _).2 fun k h1 _ => by
  have : mp L d i k = hz := by unfold mp; rw [if_neg (by omega)]
  rw [this]; exact sameH_self _
theorem sameH_flip {f g : Hs} {b : Bool} (h : sameH f g = b) : sameH g f = b := by
  cases b with
  | true => exact (sameH_iff _ _).2 fun j hj => ((sameH_iff _ _).1 h j hj).symm
  | false =>
    cases e : sameH g f
    · rfl
    · rw [(sameH_iff _ _).2 fun j hj => ((sameH_iff _ _).1 e j hj).symm] at h; cases h
set_option maxRecDepth 100000 in
set_option maxHeartbeats 8000000 in
theorem proofStands_walk (a : Int) (ao : Option Addr) (cap : Nat) (L : List Hs) (n : Int) (o : Hs) (w : World) (ha : (Lit.int .u8 a).wf = true) (hL : L.length ≤ cap ∧ cap ≤ maxLen ∧ (ao = none → cap = 0) ∧ Hl w ao L ∧ Hoks L) (hn : (Lit.int .u64 n).wf = true) (ho : ∀ j, 0 ≤ o j ∧ o j < 256)
    (ht : Tab w 1) :
    Calls Tryd.prog 5 #[.int .u8 a, .slice ao L.length cap, .int .u64 n, .agg (rowV 32 o).toArray] w fun e w' => e = .returned (.bool true) ∧ Below w.heap.size w w' := by
  obtain ⟨l1, l2, l3, l4, l5⟩ := hL
  have HT := hide ht; have HL := hide l4; have HOK := hide l5; have HOO := hide ho
  obtain ⟨a0, a1⟩ := Go.bounds_u8 ha
  obtain ⟨n0, n1⟩ := Go.bounds_u64 hn
  obtain ⟨d, hd⟩ : ∃ d : Nat, a % 33 = (d : Int) := ⟨(a % 33).toNat, by omega⟩
  have HD : Hid (d ≤ 32) := by show _ ≤ _; omega
  have hfit := fun (w1 : World) => fit_any (w := w1) a d a0 (by omega) hd ao cap L l1 l2 l3
  obtain ⟨m, hm⟩ : ∃ m, fitN d L.length = m := ⟨_, rfl⟩
  have hfl := fitN_le d L.length
  rw [hm] at hfit hfl
  have HFIT := hide hfit
  have hmi : (m : Int) ≤ 30 := by omega
  have hlen : (L.take m).length = m := by rw [List.length_take]; omega
  obtain ⟨M, hM⟩ : ∃ M, L.take m = M := ⟨_, rfl⟩
  have HMOK : Hid (Hoks M) := by rw [← hM]; exact fun f hf => HOK.out f (List.mem_of_mem_take hf)
  have HML : Hid (Hl w ao M) := by rw [← hM]; exact HL.out.take m
  rw [hM] at hlen
  have hmade := fun (w1 : World) (h1 : Hl w1 ao M) (h2 : Tab w1 1) => made_any (w := w1) d HD.out ao cap M h1 HMOK.out (by omega) (by omega) h2
  rw [hlen] at hmade
  have HMADE := hide hmade
  have HLEN := hide hlen
  have HP30 : Hid (m ≤ 30 ∧ m ≤ 2 ^ d) := ⟨hfl.2.1, hfl.2.2⟩
  obtain ⟨k, hk⟩ : ∃ k : Nat, n % ((m : Int) + 1) = (k : Int) := ⟨(n % ((m : Int) + 1)).toNat, by have := Int.emod_nonneg n (show (m : Int) + 1 ≠ 0 by omega); omega⟩
  have hkm : (k : Int) ≤ (m : Int) := by have := Int.emod_lt_of_pos n (show (0 : Int) < (m : Int) + 1 by omega); omega
  have HKM : Hid (k ≤ m) := by show _ ≤ _; omega
  have HK := hide hk
  have hw1 : IntKind.i64.wrap ((m : Int) + 1) = (m : Int) + 1 := by rw [IntKind.wrap_i64]; omega
  have hm1 : ¬ (m : Int) + 1 = 0 := by omega
  have E0 : Hid (Bxs w (w.alloc (.cells (rowV 32 o).toArray 28)) [(w.heap.size, 32, o)]) := (Bxs.none w).add rfl (BRow.box w 32 o _ rfl)
  clear ht l1 l2 l3 l4 l5 ha hn hfit hm hfl hM hlen hmade hd HL HOK ho a0 a1
  go_enter Tryd.func5, Tryd.ntmps5
  go_wp2_with fail
  generalize w.alloc (.cells (rowV 32 o).toArray 28) = w1 at *
  refine (lives11_any (HT.out.below E0.out.below)).mono ?_
  rintro e w2 ⟨rfl, hb⟩
  replace E0 := hide (E0.out.after hb)
  clear hb
  go_wp2_with fail
  refine (HFIT.out w2).mono ?_
  rintro e w3 ⟨rfl, hb⟩
  replace E0 := hide (E0.out.after hb)
  clear hb
  go_wp2_with fail
  refine (HMADE.out w3 (HML.out.below E0.out.below) (HT.out.below E0.out.below)).mono ?_
  rintro e wB ⟨rfl, hmd⟩
  obtain ⟨S, hT, _⟩ := hmd.tree
  have TR := hide hT
  replace E0 := hide (E0.out.after hmd.below)
  replace HML := hide (HML.out.below E0.out.below)
  replace HT := hide (HT.out.below E0.out.below)
  have BB := hide E0.out.below
  have HO : Hid (BRow wB w.heap.size 32 o) := E0.out.get 0 rfl
  clear hmd hT HFIT HMADE E0 hw1 hm1 hk
  go_wp2_with fail
  rw [HK.out]
  clear HK
  have h0 := node_yes TR.out k d 0 (by rw [HLEN.out]; exact HKM.out) (Nat.le_refl _) (Nat.two_pow_pos _) HT.out
  refine h0.mono ?_
  clear h0
  obtain ⟨Rt, hRt⟩ : ∃ Rt, tn (M.take k) d 0 = Rt := ⟨_, rfl⟩
  have HRT := hide hRt
  rw [hRt]
  clear hRt
  rintro e w5 ⟨rfl, hb⟩
  have E1 : Hid (Bxs wB (w5.alloc (.cells #[.int .u8 0, .int .u8 0, .int .u8 0, .int .u8 0, .int .u8 0, .int .u8 0, .int .u8 0, .int .u8 0, .int .u8 0, .int .u8 0, .int .u8 0, .int .u8 0, .int .u8 0, .int .u8 0, .int .u8 0, .int .u8 0, .int .u8 0, .int .u8 0, .int .u8 0, .int .u8 0, .int .u8 0, .int .u8 0, .int .u8 0, .int .u8 0, .int .u8 0, .int .u8 0, .int .u8 0, .int .u8 0, .int .u8 0, .int .u8 0, .int .u8 0, .int .u8 0] 28)) [(w5.heap.size, 32, fun _ => 0)]) := (Bxs.start hb).add rfl (BRow.zeros32 w5 rfl)
  clear hb
  generalize w3.heap.size = gt at *
  go_wp2_with (refine wpList_store_stop rfl 28 _ _ rfl (w5.heap.size) 0 (rowV 32 Rt) rfl rfl ((E1.out.get 0 rfl).thereA Rt) (info_hash32A Rt) (rowV_oneA _ _) ?_)
  intro w6 hw6
  have E : Hid (Bxs wB w6 [(w5.heap.size, 32, Rt)]) := by
    show Bxs _ _ _
    rw [hw6.out]; exact E1.out.put 0 rfl Rt
  clear hw6 E1
  generalize w5.heap.size = g12 at *
  have hzp := fun w => zeroPf w
  obtain ⟨Z, hZ⟩ : ∃ Z, pz = Z := ⟨_, rfl⟩
  rw [hZ] at hzp
  clear hZ
  have HZP := hide hzp
  clear hzp
  go_wp2_with fail
  go_loopg [44] k (fun gk t wr => ∃ b : Nat, gk + b = k ∧ t = .int .u64 b ∧ Bxs wB wr [(g12, 32, Rt)])
  case atStart => exact ⟨0, by omega, rfl, E.out⟩
  case round =>
    clear E
    obtain ⟨b, hb0, rfl, he⟩ := hrel
    have E := hide he; have HB := hide hb0
    clear he hb0
    by_cases hlt : b < k
    · have hbi : (b : Int) < (k : Int) := by omega
      have hbm : (b : Int) < (m : Int) := by omega
      obtain ⟨F, hF⟩ : ∃ F, M[b]? = some F := ⟨M[b]'(by rw [HLEN.out]; omega), by simp⟩
      have HFO : Hid (Hok F) := HMOK.out F (List.mem_of_getElem? hF)
      obtain ⟨blk, off, rfl, hbl, hra⟩ := HML.out.get hF
      have HLEAF : Hid (∀ w1, Below wB.heap.size wB w1 → w1.rangeAt blk (off + b * 32) (rowV 32 F)) := fun w1 hb j v hv => (hb.cell (p := ⟨blk, off + b * 32 + j, none⟩) hbl).trans (hra j v hv)
      have HOX : Hid (∀ w1, Below wB.heap.size wB w1 → w1.rangeAt w.heap.size 0 (rowV 32 o)) := fun w1 hb => (HO.out.after hb rfl).range
      have hmake := make_yes (TR.out.below E.out.below) k b (by rw [HLEN.out]; exact HKM.out) hlt (HT.out.below E.out.below)
      have hlok : Hoks (M.take k) := fun f hf => HMOK.out f (List.mem_of_mem_take hf)
      obtain ⟨P, hP⟩ : ∃ P, mp (M.take k) d b = P := ⟨_, rfl⟩
      have HPO : Hid (Pok P) := by rw [← hP]; exact mp_ok hlok d b
      have h0F : tn (M.take k) 0 b = F := by rw [tn_zero, List.getD_eq_getElem?_getD, List.getElem?_take, if_pos hlt, hF]; rfl
      have hb2 : b < 2 ^ d := by have := HP30.out.2; have := HKM.out; omega
      have hclF : cl b P F d = Rt := by rw [← hP, ← h0F, cl_mp _ _ _ _ (Nat.le_refl d), Nat.div_eq_of_lt hb2, HRT.out]
      have HCLF := hide hclF
      have hendP : endB P d = true := by rw [← hP]; exact mp_end _ _ _
      have HCE : Hid (ce (d : Int) b P = 0) := ce_ok HD.out hb2 hendP
      have HCH : Hid (∀ h, ch (d : Int) b h P = cl b P h d) := fun h => ch_ok HD.out hb2 hendP
      have HNB : Hid (¬ k ≤ b) := by show ¬ _; omega
      have HBI : Hid (b ≤ 18446744073709551615) := by show _ ≤ _; have := HP30.out.1; have := HKM.out; omega
      have K1 : Hid (ck (d : Int) Rt k b F P = 0) := by show _ = _; rw [ck, if_pos HCE.out, if_neg HNB.out, HCH.out, hclF, if_pos (sameH_self _)]
      rw [hP] at hmake
      have HMAKE := hide hmake
      have HB30 : Hid (b ≤ 30) := by show _ ≤ _; have := HP30.out.1; have := HKM.out; omega
      clear hmake hlok hP h0F hb2 hendP hF hbl hra hclF
      have hb30 : (b : Int) ≤ 30 := by have := HB30.out; omega
      go_wp2_with fail
      refine HMAKE.out.mono ?_
      rintro e w7 ⟨rfl, hb⟩
      replace E := hide (E.out.after hb)
      clear hb HMAKE
      have hzp := HZP.out
      have E1 : Hid (Bxs wB (w7.alloc (.cells (rowV 1024 (pc Z)).toArray 29)) [(w7.heap.size, 1024, pc Z), (g12, 32, Rt)]) := E.out.add rfl (BRow.box w7 1024 _ _ rfl)
      go_wp2_with (refine wpList_store_stop rfl 29 _ _ rfl (w7.heap.size) 0 (rowV 1024 (pc P)) rfl rfl ((E1.out.get 0 rfl).thereA (pc P)) (info_pfA (pc P)) (rowV_oneA _ _) ?_)
      intro w8 hw8
      replace E : Hid (Bxs wB w8 [(w7.heap.size, 1024, pc P), (g12, 32, Rt)]) := by
        show Bxs _ _ _
        rw [hw8.out]; exact E1.out.put 0 rfl (pc P)
      clear hw8 E1 hzp
      generalize w7.heap.size = g15 at *
      go_wp2_with fail
      replace E := hide (E.out.after (bMe w8).drew)
      refine wp_region_held_drew (S := fun w1 => Bxs wB w1 [(g15, 1024, pc P), (g12, 32, Rt)]) (by kernel_rfl) E.out (fun _ => ?_)
      generalize w8.drew = w9 at *
      refine tk0 (v := .int .i64 0) (by kernel_rfl) (by kernel_rfl) (by kernel_rfl) (fun _ _ _ h => h) E.out (Or.inl ⟨by rfl, fun w hw => by go_simp; try (with_reducible rfl)⟩) ?_
      simp only [Act.put, List.setIfInBounds_toArray, List.set_cons_zero, List.set_cons_succ]
      refine tk1 (v := .bool false) (by kernel_rfl) (by kernel_rfl) (by kernel_rfl) (fun _ _ _ h => h) E.out (Or.inl ⟨by rfl, fun w hw => by go_simp; try (with_reducible rfl)⟩) ?_
      simp only [Act.put, List.setIfInBounds_toArray, List.set_cons_zero, List.set_cons_succ]
      refine tk2 (v := .bool false) (by kernel_rfl) (by kernel_rfl) (by kernel_rfl) (fun _ _ _ h => h) E.out (Or.inl ⟨by rfl, fun w hw => by go_simp; try (with_reducible rfl)⟩) ?_
      simp only [Act.put, List.setIfInBounds_toArray, List.set_cons_zero, List.set_cons_succ]
      refine tk3 (v := .int .i64 (d : Int)) (by kernel_rfl) (by kernel_rfl) (by kernel_rfl) (fun _ _ _ h => h) E.out (Or.inl ⟨by rfl, fun w hw => by go_simp; try (with_reducible rfl)⟩) ?_
      simp only [Act.put, List.setIfInBounds_toArray, List.set_cons_zero, List.set_cons_succ]
      refine tk4 (by kernel_rfl) (by kernel_rfl) (by kernel_rfl) (fun _ _ _ h => h) E.out (yieldsIf_load_mid (by rfl) _ _ rfl (g12) (0) rfl (rowV 32 Rt) _ (fun _ hw => (hw.get 1 rfl).range) Tryd.underlying28 rfl (info_hash32 _)) ?_
      simp only [Act.put, List.setIfInBounds_toArray, List.set_cons_zero, List.set_cons_succ]
      refine tk5 (v := .int .u64 (k : Int)) (by kernel_rfl) (by kernel_rfl) (by kernel_rfl) (fun _ _ _ h => h) E.out (Or.inl ⟨by rfl, fun w hw => by go_simp; try (with_reducible rfl)⟩) ?_
      simp only [Act.put, List.setIfInBounds_toArray, List.set_cons_zero, List.set_cons_succ]
      refine tk6 (v := .int .u64 (b : Int)) (by kernel_rfl) (by kernel_rfl) (by kernel_rfl) (fun _ _ _ h => h) E.out (Or.inl ⟨by rfl, fun w hw => by go_simp; try (with_reducible rfl)⟩) ?_
      simp only [Act.put, List.setIfInBounds_toArray, List.set_cons_zero, List.set_cons_succ]
      refine tk7 (v := .slice (some ⟨blk, off, none⟩) m cap) (by kernel_rfl) (by kernel_rfl) (by kernel_rfl) (fun _ _ _ h => h) E.out (Or.inl ⟨by rfl, fun w hw => by go_simp; try (with_reducible rfl)⟩) ?_
      simp only [Act.put, List.setIfInBounds_toArray, List.set_cons_zero, List.set_cons_succ]
      refine tk8 (v := .int .u64 (b : Int)) (by kernel_rfl) (by kernel_rfl) (by kernel_rfl) (fun _ _ _ h => h) E.out (Or.inl ⟨by rfl, fun w hw => by go_simp; try (with_reducible rfl)⟩) ?_
      simp only [Act.put, List.setIfInBounds_toArray, List.set_cons_zero, List.set_cons_succ]
      refine tk9 (v := .pointer (some ⟨blk, off + b * 32, none⟩)) (by kernel_rfl) (by kernel_rfl) (by kernel_rfl) (fun _ _ _ h => h) E.out (Or.inl ⟨by rfl, fun w hw => by go_simp; try (with_reducible rfl)⟩) ?_
      simp only [Act.put, List.setIfInBounds_toArray, List.set_cons_zero, List.set_cons_succ]
      refine tk10 (by kernel_rfl) (by kernel_rfl) (by kernel_rfl) (fun _ _ _ h => h) E.out (yieldsIf_load_mid (by rfl) _ _ rfl (blk) (off + b * 32) rfl (rowV 32 F) _ (fun _ hw => HLEAF.out _ hw.below) Tryd.underlying28 rfl (info_hash32 _)) ?_
      simp only [Act.put, List.setIfInBounds_toArray, List.set_cons_zero, List.set_cons_succ]
      refine tk11 (by kernel_rfl) (by kernel_rfl) (by kernel_rfl) (fun _ _ _ h => h) E.out (yieldsIf_load_mid (by rfl) _ _ rfl (g15) (0) rfl (rowV 1024 (pc P)) _ (fun _ hw => (hw.get 0 rfl).range) Tryd.underlying29 rfl (info_pf _)) ?_
      simp only [Act.put, List.setIfInBounds_toArray, List.set_cons_zero, List.set_cons_succ]
      refine wpAnyH_ready (rs := [12]) (by kernel_rfl) (by simp) ?_
      refine rd12 (fun K hK => ?_) AllReadyH.nil
      go_simp
      refine (check_any (d : Int) Rt k b F P (by omega) (by have := HD.out; omega) HBI.out HFO.out HPO.out (HT.out.below E.out.below)).mono ?_
      rintro e wa ⟨rfl, hb⟩
      simp only []
      replace E := hide (E.out.after hb)
      clear hb
      rw [K1.out]
      refine hK.out _ _ E.out (fun _ => ?_)
      clear hK K
      refine tk13 (v := .bool false) (by kernel_rfl) (by kernel_rfl) (by kernel_rfl) (fun _ _ _ h => h) E.out (Or.inl ⟨by rfl, fun w hw => by go_simp; try (with_reducible rfl)⟩) ?_
      simp only [Act.put, List.setIfInBounds_toArray, List.set_cons_zero, List.set_cons_succ]
      refine tk14 (v := .bool false) (by kernel_rfl) (by kernel_rfl) (by kernel_rfl) (fun _ _ _ h => h) E.out (Or.inl ⟨by rfl, fun w hw => by go_simp; try (with_reducible rfl)⟩) ?_
      simp only [Act.put, List.setIfInBounds_toArray, List.set_cons_zero, List.set_cons_succ]
      refine wpAnyH_done (by kernel_rfl) ?_ _
      try simp only [Act.put]
      go_wp2_with fail
      replace E := hide (E.out.after (bMe wa).drew)
      refine wp_region_held_drew (S := fun w1 => Bxs wB w1 [(g15, 1024, pc P), (g12, 32, Rt)]) (by kernel_rfl) E.out (fun _ => ?_)
      generalize wa.drew = wc at *
      have hse := fun w => eqHash o F w
      cases e1 : sameH o F with
      | true =>
        rw [e1] at hse
        refine tk0 (by kernel_rfl) (by kernel_rfl) (by kernel_rfl) (fun _ _ _ h => h) E.out (yieldsIf_load_mid (by rfl) _ _ rfl (w.heap.size) (0) rfl (rowV 32 o) _ (fun _ hw => HOX.out _ hw.below) Tryd.underlying28 rfl (info_hash32 _)) ?_
        simp only [Act.put, List.setIfInBounds_toArray, List.set_cons_zero, List.set_cons_succ]
        refine tk1 (v := .slice (some ⟨blk, off, none⟩) m cap) (by kernel_rfl) (by kernel_rfl) (by kernel_rfl) (fun _ _ _ h => h) E.out (Or.inl ⟨by rfl, fun w hw => by go_simp; try (with_reducible rfl)⟩) ?_
        simp only [Act.put, List.setIfInBounds_toArray, List.set_cons_zero, List.set_cons_succ]
        refine tk2 (v := .int .u64 (b : Int)) (by kernel_rfl) (by kernel_rfl) (by kernel_rfl) (fun _ _ _ h => h) E.out (Or.inl ⟨by rfl, fun w hw => by go_simp; try (with_reducible rfl)⟩) ?_
        simp only [Act.put, List.setIfInBounds_toArray, List.set_cons_zero, List.set_cons_succ]
        refine tk3 (v := .pointer (some ⟨blk, off + b * 32, none⟩)) (by kernel_rfl) (by kernel_rfl) (by kernel_rfl) (fun _ _ _ h => h) E.out (Or.inl ⟨by rfl, fun w hw => by go_simp; try (with_reducible rfl)⟩) ?_
        simp only [Act.put, List.setIfInBounds_toArray, List.set_cons_zero, List.set_cons_succ]
        refine tk4 (by kernel_rfl) (by kernel_rfl) (by kernel_rfl) (fun _ _ _ h => h) E.out (yieldsIf_load_mid (by rfl) _ _ rfl (blk) (off + b * 32) rfl (rowV 32 F) _ (fun _ hw => HLEAF.out _ hw.below) Tryd.underlying28 rfl (info_hash32 _)) ?_
        simp only [Act.put, List.setIfInBounds_toArray, List.set_cons_zero, List.set_cons_succ]
        refine tk5 (v := .bool false) (by kernel_rfl) (by kernel_rfl) (by kernel_rfl) (fun _ _ _ h => h) E.out (Or.inl ⟨by rfl, fun w hw => by go_simp; try (with_reducible rfl)⟩) ?_
        simp only [Act.put, List.setIfInBounds_toArray, List.set_cons_zero, List.set_cons_succ]
        refine tk6 (v := .bool false) (by kernel_rfl) (by kernel_rfl) (by kernel_rfl) (fun _ _ _ h => h) E.out (Or.inl ⟨by rfl, fun w hw => by go_simp; try (with_reducible rfl)⟩) ?_
        simp only [Act.put, List.setIfInBounds_toArray, List.set_cons_zero, List.set_cons_succ]
        refine tk7 (v := undef) (by kernel_rfl) (by kernel_rfl) (by kernel_rfl) (fun _ _ _ h => h) E.out (Or.inr ⟨by rfl, rfl⟩) ?_
        simp only [Act.put, List.setIfInBounds_toArray, List.set_cons_zero, List.set_cons_succ]
        refine tk8 (v := undef) (by kernel_rfl) (by kernel_rfl) (by kernel_rfl) (fun _ _ _ h => h) E.out (Or.inr ⟨by rfl, rfl⟩) ?_
        simp only [Act.put, List.setIfInBounds_toArray, List.set_cons_zero, List.set_cons_succ]
        refine tk9 (v := undef) (by kernel_rfl) (by kernel_rfl) (by kernel_rfl) (fun _ _ _ h => h) E.out (Or.inr ⟨by rfl, rfl⟩) ?_
        simp only [Act.put, List.setIfInBounds_toArray, List.set_cons_zero, List.set_cons_succ]
        refine tk10 (v := undef) (by kernel_rfl) (by kernel_rfl) (by kernel_rfl) (fun _ _ _ h => h) E.out (Or.inr ⟨by rfl, rfl⟩) ?_
        simp only [Act.put, List.setIfInBounds_toArray, List.set_cons_zero, List.set_cons_succ]
        refine tk11 (v := undef) (by kernel_rfl) (by kernel_rfl) (by kernel_rfl) (fun _ _ _ h => h) E.out (Or.inr ⟨by rfl, rfl⟩) ?_
        simp only [Act.put, List.setIfInBounds_toArray, List.set_cons_zero, List.set_cons_succ]
        refine tk12 (v := undef) (by kernel_rfl) (by kernel_rfl) (by kernel_rfl) (fun _ _ _ h => h) E.out (Or.inr ⟨by rfl, rfl⟩) ?_
        simp only [Act.put, List.setIfInBounds_toArray, List.set_cons_zero, List.set_cons_succ]
        refine tk13 (v := undef) (by kernel_rfl) (by kernel_rfl) (by kernel_rfl) (fun _ _ _ h => h) E.out (Or.inr ⟨by rfl, rfl⟩) ?_
        simp only [Act.put, List.setIfInBounds_toArray, List.set_cons_zero, List.set_cons_succ]
        refine tk14 (v := undef) (by kernel_rfl) (by kernel_rfl) (by kernel_rfl) (fun _ _ _ h => h) E.out (Or.inr ⟨by rfl, rfl⟩) ?_
        simp only [Act.put, List.setIfInBounds_toArray, List.set_cons_zero, List.set_cons_succ]
        refine tk15 (v := .bool false) (by kernel_rfl) (by kernel_rfl) (by kernel_rfl) (fun _ _ _ h => h) E.out (Or.inl ⟨by rfl, fun w hw => by go_simp; try (with_reducible rfl)⟩) ?_
        simp only [Act.put, List.setIfInBounds_toArray, List.set_cons_zero, List.set_cons_succ]
        refine tk16 (v := .bool false) (by kernel_rfl) (by kernel_rfl) (by kernel_rfl) (fun _ _ _ h => h) E.out (Or.inl ⟨by rfl, fun w hw => by go_simp; try (with_reducible rfl)⟩) ?_
        simp only [Act.put, List.setIfInBounds_toArray, List.set_cons_zero, List.set_cons_succ]
        refine tk17 (v := undef) (by kernel_rfl) (by kernel_rfl) (by kernel_rfl) (fun _ _ _ h => h) E.out (Or.inr ⟨by rfl, rfl⟩) ?_
        simp only [Act.put, List.setIfInBounds_toArray, List.set_cons_zero, List.set_cons_succ]
        refine tk18 (v := undef) (by kernel_rfl) (by kernel_rfl) (by kernel_rfl) (fun _ _ _ h => h) E.out (Or.inr ⟨by rfl, rfl⟩) ?_
        simp only [Act.put, List.setIfInBounds_toArray, List.set_cons_zero, List.set_cons_succ]
        refine tk19 (v := undef) (by kernel_rfl) (by kernel_rfl) (by kernel_rfl) (fun _ _ _ h => h) E.out (Or.inr ⟨by rfl, rfl⟩) ?_
        simp only [Act.put, List.setIfInBounds_toArray, List.set_cons_zero, List.set_cons_succ]
        refine tk20 (v := undef) (by kernel_rfl) (by kernel_rfl) (by kernel_rfl) (fun _ _ _ h => h) E.out (Or.inr ⟨by rfl, rfl⟩) ?_
        simp only [Act.put, List.setIfInBounds_toArray, List.set_cons_zero, List.set_cons_succ]
        refine tk21 (v := undef) (by kernel_rfl) (by kernel_rfl) (by kernel_rfl) (fun _ _ _ h => h) E.out (Or.inr ⟨by rfl, rfl⟩) ?_
        simp only [Act.put, List.setIfInBounds_toArray, List.set_cons_zero, List.set_cons_succ]
        refine tk22 (v := undef) (by kernel_rfl) (by kernel_rfl) (by kernel_rfl) (fun _ _ _ h => h) E.out (Or.inr ⟨by rfl, rfl⟩) ?_
        simp only [Act.put, List.setIfInBounds_toArray, List.set_cons_zero, List.set_cons_succ]
        refine tk23 (v := undef) (by kernel_rfl) (by kernel_rfl) (by kernel_rfl) (fun _ _ _ h => h) E.out (Or.inr ⟨by rfl, rfl⟩) ?_
        simp only [Act.put, List.setIfInBounds_toArray, List.set_cons_zero, List.set_cons_succ]
        refine tk24 (v := undef) (by kernel_rfl) (by kernel_rfl) (by kernel_rfl) (fun _ _ _ h => h) E.out (Or.inr ⟨by rfl, rfl⟩) ?_
        simp only [Act.put, List.setIfInBounds_toArray, List.set_cons_zero, List.set_cons_succ]
        refine tk25 (v := undef) (by kernel_rfl) (by kernel_rfl) (by kernel_rfl) (fun _ _ _ h => h) E.out (Or.inr ⟨by rfl, rfl⟩) ?_
        simp only [Act.put, List.setIfInBounds_toArray, List.set_cons_zero, List.set_cons_succ]
        refine tk26 (v := undef) (by kernel_rfl) (by kernel_rfl) (by kernel_rfl) (fun _ _ _ h => h) E.out (Or.inr ⟨by rfl, rfl⟩) ?_
        simp only [Act.put, List.setIfInBounds_toArray, List.set_cons_zero, List.set_cons_succ]
        refine tk27 (v := undef) (by kernel_rfl) (by kernel_rfl) (by kernel_rfl) (fun _ _ _ h => h) E.out (Or.inr ⟨by rfl, rfl⟩) ?_
        simp only [Act.put, List.setIfInBounds_toArray, List.set_cons_zero, List.set_cons_succ]
        refine tk28 (v := .bool false) (by kernel_rfl) (by kernel_rfl) (by kernel_rfl) (fun _ _ _ h => h) E.out (Or.inl ⟨by rfl, fun w hw => by go_simp; try (with_reducible rfl)⟩) ?_
        simp only [Act.put, List.setIfInBounds_toArray, List.set_cons_zero, List.set_cons_succ]
        refine wpAnyH_done (by kernel_rfl) ?_ _
        try simp only [Act.put]
        clear hse
        go_wp2
        go_roundg (k - b - 1)
        case measure => have := HB.out; omega
        case rel => exact ⟨b + 1, by omega, by go_num, E.out.tail⟩
      | false =>
        rw [e1] at hse
        cases e2 : sameH (cl b P o d) Rt with
        | false =>
          have K2 : Hid (ck (d : Int) Rt k b o P = 14) := by show _ = _; rw [ck, if_pos HCE.out, if_neg HNB.out, HCH.out, e2, if_neg (by decide)]
          refine tk0 (by kernel_rfl) (by kernel_rfl) (by kernel_rfl) (fun _ _ _ h => h) E.out (yieldsIf_load_mid (by rfl) _ _ rfl (w.heap.size) (0) rfl (rowV 32 o) _ (fun _ hw => HOX.out _ hw.below) Tryd.underlying28 rfl (info_hash32 _)) ?_
          simp only [Act.put, List.setIfInBounds_toArray, List.set_cons_zero, List.set_cons_succ]
          refine tk1 (v := .slice (some ⟨blk, off, none⟩) m cap) (by kernel_rfl) (by kernel_rfl) (by kernel_rfl) (fun _ _ _ h => h) E.out (Or.inl ⟨by rfl, fun w hw => by go_simp; try (with_reducible rfl)⟩) ?_
          simp only [Act.put, List.setIfInBounds_toArray, List.set_cons_zero, List.set_cons_succ]
          refine tk2 (v := .int .u64 (b : Int)) (by kernel_rfl) (by kernel_rfl) (by kernel_rfl) (fun _ _ _ h => h) E.out (Or.inl ⟨by rfl, fun w hw => by go_simp; try (with_reducible rfl)⟩) ?_
          simp only [Act.put, List.setIfInBounds_toArray, List.set_cons_zero, List.set_cons_succ]
          refine tk3 (v := .pointer (some ⟨blk, off + b * 32, none⟩)) (by kernel_rfl) (by kernel_rfl) (by kernel_rfl) (fun _ _ _ h => h) E.out (Or.inl ⟨by rfl, fun w hw => by go_simp; try (with_reducible rfl)⟩) ?_
          simp only [Act.put, List.setIfInBounds_toArray, List.set_cons_zero, List.set_cons_succ]
          refine tk4 (by kernel_rfl) (by kernel_rfl) (by kernel_rfl) (fun _ _ _ h => h) E.out (yieldsIf_load_mid (by rfl) _ _ rfl (blk) (off + b * 32) rfl (rowV 32 F) _ (fun _ hw => HLEAF.out _ hw.below) Tryd.underlying28 rfl (info_hash32 _)) ?_
          simp only [Act.put, List.setIfInBounds_toArray, List.set_cons_zero, List.set_cons_succ]
          refine tk5 (v := .bool true) (by kernel_rfl) (by kernel_rfl) (by kernel_rfl) (fun _ _ _ h => h) E.out (Or.inl ⟨by rfl, fun w hw => by go_simp; try (with_reducible rfl)⟩) ?_
          simp only [Act.put, List.setIfInBounds_toArray, List.set_cons_zero, List.set_cons_succ]
          refine tk6 (v := .bool true) (by kernel_rfl) (by kernel_rfl) (by kernel_rfl) (fun _ _ _ h => h) E.out (Or.inl ⟨by rfl, fun w hw => by go_simp; try (with_reducible rfl)⟩) ?_
          simp only [Act.put, List.setIfInBounds_toArray, List.set_cons_zero, List.set_cons_succ]
          refine tk7 (v := .int .i64 (d : Int)) (by kernel_rfl) (by kernel_rfl) (by kernel_rfl) (fun _ _ _ h => h) E.out (Or.inl ⟨by rfl, fun w hw => by go_simp; try (with_reducible rfl)⟩) ?_
          simp only [Act.put, List.setIfInBounds_toArray, List.set_cons_zero, List.set_cons_succ]
          refine tk8 (by kernel_rfl) (by kernel_rfl) (by kernel_rfl) (fun _ _ _ h => h) E.out (yieldsIf_load_mid (by rfl) _ _ rfl (g12) (0) rfl (rowV 32 Rt) _ (fun _ hw => (hw.get 1 rfl).range) Tryd.underlying28 rfl (info_hash32 _)) ?_
          simp only [Act.put, List.setIfInBounds_toArray, List.set_cons_zero, List.set_cons_succ]
          refine tk9 (v := .int .u64 (k : Int)) (by kernel_rfl) (by kernel_rfl) (by kernel_rfl) (fun _ _ _ h => h) E.out (Or.inl ⟨by rfl, fun w hw => by go_simp; try (with_reducible rfl)⟩) ?_
          simp only [Act.put, List.setIfInBounds_toArray, List.set_cons_zero, List.set_cons_succ]
          refine tk10 (v := .int .u64 (b : Int)) (by kernel_rfl) (by kernel_rfl) (by kernel_rfl) (fun _ _ _ h => h) E.out (Or.inl ⟨by rfl, fun w hw => by go_simp; try (with_reducible rfl)⟩) ?_
          simp only [Act.put, List.setIfInBounds_toArray, List.set_cons_zero, List.set_cons_succ]
          refine tk11 (by kernel_rfl) (by kernel_rfl) (by kernel_rfl) (fun _ _ _ h => h) E.out (yieldsIf_load_mid (by rfl) _ _ rfl (w.heap.size) (0) rfl (rowV 32 o) _ (fun _ hw => HOX.out _ hw.below) Tryd.underlying28 rfl (info_hash32 _)) ?_
          simp only [Act.put, List.setIfInBounds_toArray, List.set_cons_zero, List.set_cons_succ]
          refine tk12 (by kernel_rfl) (by kernel_rfl) (by kernel_rfl) (fun _ _ _ h => h) E.out (yieldsIf_load_mid (by rfl) _ _ rfl (g15) (0) rfl (rowV 1024 (pc P)) _ (fun _ hw => (hw.get 0 rfl).range) Tryd.underlying29 rfl (info_pf _)) ?_
          simp only [Act.put, List.setIfInBounds_toArray, List.set_cons_zero, List.set_cons_succ]
          refine wpAnyH_ready (rs := [13]) (by kernel_rfl) (by simp) ?_
          refine rd13 (fun K hK => ?_) AllReadyH.nil
          go_simp
          refine (check_any (d : Int) Rt k b o P (by omega) (by have := HD.out; omega) HBI.out HOO.out HPO.out (HT.out.below E.out.below)).mono ?_
          rintro e wd ⟨rfl, hb⟩
          simp only []
          replace E := hide (E.out.after hb)
          clear hb
          rw [K2.out]
          refine hK.out _ _ E.out (fun _ => ?_)
          clear hK K
          refine tk14 (v := .bool false) (by kernel_rfl) (by kernel_rfl) (by kernel_rfl) (fun _ _ _ h => h) E.out (Or.inl ⟨by rfl, fun w hw => by go_simp; try (with_reducible rfl)⟩) ?_
          simp only [Act.put, List.setIfInBounds_toArray, List.set_cons_zero, List.set_cons_succ]
          refine tk15 (v := .bool false) (by kernel_rfl) (by kernel_rfl) (by kernel_rfl) (fun _ _ _ h => h) E.out (Or.inl ⟨by rfl, fun w hw => by go_simp; try (with_reducible rfl)⟩) ?_
          simp only [Act.put, List.setIfInBounds_toArray, List.set_cons_zero, List.set_cons_succ]
          refine tk16 (v := .bool false) (by kernel_rfl) (by kernel_rfl) (by kernel_rfl) (fun _ _ _ h => h) E.out (Or.inl ⟨by rfl, fun w hw => by go_simp; try (with_reducible rfl)⟩) ?_
          simp only [Act.put, List.setIfInBounds_toArray, List.set_cons_zero, List.set_cons_succ]
          refine tk17 (v := undef) (by kernel_rfl) (by kernel_rfl) (by kernel_rfl) (fun _ _ _ h => h) E.out (Or.inr ⟨by rfl, rfl⟩) ?_
          simp only [Act.put, List.setIfInBounds_toArray, List.set_cons_zero, List.set_cons_succ]
          refine tk18 (v := undef) (by kernel_rfl) (by kernel_rfl) (by kernel_rfl) (fun _ _ _ h => h) E.out (Or.inr ⟨by rfl, rfl⟩) ?_
          simp only [Act.put, List.setIfInBounds_toArray, List.set_cons_zero, List.set_cons_succ]
          refine tk19 (v := undef) (by kernel_rfl) (by kernel_rfl) (by kernel_rfl) (fun _ _ _ h => h) E.out (Or.inr ⟨by rfl, rfl⟩) ?_
          simp only [Act.put, List.setIfInBounds_toArray, List.set_cons_zero, List.set_cons_succ]
          refine tk20 (v := undef) (by kernel_rfl) (by kernel_rfl) (by kernel_rfl) (fun _ _ _ h => h) E.out (Or.inr ⟨by rfl, rfl⟩) ?_
          simp only [Act.put, List.setIfInBounds_toArray, List.set_cons_zero, List.set_cons_succ]
          refine tk21 (v := undef) (by kernel_rfl) (by kernel_rfl) (by kernel_rfl) (fun _ _ _ h => h) E.out (Or.inr ⟨by rfl, rfl⟩) ?_
          simp only [Act.put, List.setIfInBounds_toArray, List.set_cons_zero, List.set_cons_succ]
          refine tk22 (v := undef) (by kernel_rfl) (by kernel_rfl) (by kernel_rfl) (fun _ _ _ h => h) E.out (Or.inr ⟨by rfl, rfl⟩) ?_
          simp only [Act.put, List.setIfInBounds_toArray, List.set_cons_zero, List.set_cons_succ]
          refine tk23 (v := undef) (by kernel_rfl) (by kernel_rfl) (by kernel_rfl) (fun _ _ _ h => h) E.out (Or.inr ⟨by rfl, rfl⟩) ?_
          simp only [Act.put, List.setIfInBounds_toArray, List.set_cons_zero, List.set_cons_succ]
          refine tk24 (v := undef) (by kernel_rfl) (by kernel_rfl) (by kernel_rfl) (fun _ _ _ h => h) E.out (Or.inr ⟨by rfl, rfl⟩) ?_
          simp only [Act.put, List.setIfInBounds_toArray, List.set_cons_zero, List.set_cons_succ]
          refine tk25 (v := undef) (by kernel_rfl) (by kernel_rfl) (by kernel_rfl) (fun _ _ _ h => h) E.out (Or.inr ⟨by rfl, rfl⟩) ?_
          simp only [Act.put, List.setIfInBounds_toArray, List.set_cons_zero, List.set_cons_succ]
          refine tk26 (v := undef) (by kernel_rfl) (by kernel_rfl) (by kernel_rfl) (fun _ _ _ h => h) E.out (Or.inr ⟨by rfl, rfl⟩) ?_
          simp only [Act.put, List.setIfInBounds_toArray, List.set_cons_zero, List.set_cons_succ]
          refine tk27 (v := undef) (by kernel_rfl) (by kernel_rfl) (by kernel_rfl) (fun _ _ _ h => h) E.out (Or.inr ⟨by rfl, rfl⟩) ?_
          simp only [Act.put, List.setIfInBounds_toArray, List.set_cons_zero, List.set_cons_succ]
          refine tk28 (v := .bool false) (by kernel_rfl) (by kernel_rfl) (by kernel_rfl) (fun _ _ _ h => h) E.out (Or.inl ⟨by rfl, fun w hw => by go_simp; try (with_reducible rfl)⟩) ?_
          simp only [Act.put, List.setIfInBounds_toArray, List.set_cons_zero, List.set_cons_succ]
          refine wpAnyH_done (by kernel_rfl) ?_ _
          try simp only [Act.put]
          clear hse
          go_wp2
          go_roundg (k - b - 1)
          case measure => have := HB.out; omega
          case rel => exact ⟨b + 1, by omega, by go_num, E.out.tail⟩
        | true =>
          have K2 : Hid (ck (d : Int) Rt k b o P = 0) := by show _ = _; rw [ck, if_pos HCE.out, if_neg HNB.out, HCH.out, if_pos e2]
          refine tk0 (by kernel_rfl) (by kernel_rfl) (by kernel_rfl) (fun _ _ _ h => h) E.out (yieldsIf_load_mid (by rfl) _ _ rfl (w.heap.size) (0) rfl (rowV 32 o) _ (fun _ hw => HOX.out _ hw.below) Tryd.underlying28 rfl (info_hash32 _)) ?_
          simp only [Act.put, List.setIfInBounds_toArray, List.set_cons_zero, List.set_cons_succ]
          refine tk1 (v := .slice (some ⟨blk, off, none⟩) m cap) (by kernel_rfl) (by kernel_rfl) (by kernel_rfl) (fun _ _ _ h => h) E.out (Or.inl ⟨by rfl, fun w hw => by go_simp; try (with_reducible rfl)⟩) ?_
          simp only [Act.put, List.setIfInBounds_toArray, List.set_cons_zero, List.set_cons_succ]
          refine tk2 (v := .int .u64 (b : Int)) (by kernel_rfl) (by kernel_rfl) (by kernel_rfl) (fun _ _ _ h => h) E.out (Or.inl ⟨by rfl, fun w hw => by go_simp; try (with_reducible rfl)⟩) ?_
          simp only [Act.put, List.setIfInBounds_toArray, List.set_cons_zero, List.set_cons_succ]
          refine tk3 (v := .pointer (some ⟨blk, off + b * 32, none⟩)) (by kernel_rfl) (by kernel_rfl) (by kernel_rfl) (fun _ _ _ h => h) E.out (Or.inl ⟨by rfl, fun w hw => by go_simp; try (with_reducible rfl)⟩) ?_
          simp only [Act.put, List.setIfInBounds_toArray, List.set_cons_zero, List.set_cons_succ]
          refine tk4 (by kernel_rfl) (by kernel_rfl) (by kernel_rfl) (fun _ _ _ h => h) E.out (yieldsIf_load_mid (by rfl) _ _ rfl (blk) (off + b * 32) rfl (rowV 32 F) _ (fun _ hw => HLEAF.out _ hw.below) Tryd.underlying28 rfl (info_hash32 _)) ?_
          simp only [Act.put, List.setIfInBounds_toArray, List.set_cons_zero, List.set_cons_succ]
          refine tk5 (v := .bool true) (by kernel_rfl) (by kernel_rfl) (by kernel_rfl) (fun _ _ _ h => h) E.out (Or.inl ⟨by rfl, fun w hw => by go_simp; try (with_reducible rfl)⟩) ?_
          simp only [Act.put, List.setIfInBounds_toArray, List.set_cons_zero, List.set_cons_succ]
          refine tk6 (v := .bool true) (by kernel_rfl) (by kernel_rfl) (by kernel_rfl) (fun _ _ _ h => h) E.out (Or.inl ⟨by rfl, fun w hw => by go_simp; try (with_reducible rfl)⟩) ?_
          simp only [Act.put, List.setIfInBounds_toArray, List.set_cons_zero, List.set_cons_succ]
          refine tk7 (v := .int .i64 (d : Int)) (by kernel_rfl) (by kernel_rfl) (by kernel_rfl) (fun _ _ _ h => h) E.out (Or.inl ⟨by rfl, fun w hw => by go_simp; try (with_reducible rfl)⟩) ?_
          simp only [Act.put, List.setIfInBounds_toArray, List.set_cons_zero, List.set_cons_succ]
          refine tk8 (by kernel_rfl) (by kernel_rfl) (by kernel_rfl) (fun _ _ _ h => h) E.out (yieldsIf_load_mid (by rfl) _ _ rfl (g12) (0) rfl (rowV 32 Rt) _ (fun _ hw => (hw.get 1 rfl).range) Tryd.underlying28 rfl (info_hash32 _)) ?_
          simp only [Act.put, List.setIfInBounds_toArray, List.set_cons_zero, List.set_cons_succ]
          refine tk9 (v := .int .u64 (k : Int)) (by kernel_rfl) (by kernel_rfl) (by kernel_rfl) (fun _ _ _ h => h) E.out (Or.inl ⟨by rfl, fun w hw => by go_simp; try (with_reducible rfl)⟩) ?_
          simp only [Act.put, List.setIfInBounds_toArray, List.set_cons_zero, List.set_cons_succ]
          refine tk10 (v := .int .u64 (b : Int)) (by kernel_rfl) (by kernel_rfl) (by kernel_rfl) (fun _ _ _ h => h) E.out (Or.inl ⟨by rfl, fun w hw => by go_simp; try (with_reducible rfl)⟩) ?_
          simp only [Act.put, List.setIfInBounds_toArray, List.set_cons_zero, List.set_cons_succ]
          refine tk11 (by kernel_rfl) (by kernel_rfl) (by kernel_rfl) (fun _ _ _ h => h) E.out (yieldsIf_load_mid (by rfl) _ _ rfl (w.heap.size) (0) rfl (rowV 32 o) _ (fun _ hw => HOX.out _ hw.below) Tryd.underlying28 rfl (info_hash32 _)) ?_
          simp only [Act.put, List.setIfInBounds_toArray, List.set_cons_zero, List.set_cons_succ]
          refine tk12 (by kernel_rfl) (by kernel_rfl) (by kernel_rfl) (fun _ _ _ h => h) E.out (yieldsIf_load_mid (by rfl) _ _ rfl (g15) (0) rfl (rowV 1024 (pc P)) _ (fun _ hw => (hw.get 0 rfl).range) Tryd.underlying29 rfl (info_pf _)) ?_
          simp only [Act.put, List.setIfInBounds_toArray, List.set_cons_zero, List.set_cons_succ]
          refine wpAnyH_ready (rs := [13]) (by kernel_rfl) (by simp) ?_
          refine rd13 (fun K hK => ?_) AllReadyH.nil
          go_simp
          refine (check_any (d : Int) Rt k b o P (by omega) (by have := HD.out; omega) HBI.out HOO.out HPO.out (HT.out.below E.out.below)).mono ?_
          rintro e wd ⟨rfl, hb⟩
          simp only []
          replace E := hide (E.out.after hb)
          clear hb
          rw [K2.out]
          refine hK.out _ _ E.out (fun _ => ?_)
          clear hK K
          refine tk14 (v := .bool true) (by kernel_rfl) (by kernel_rfl) (by kernel_rfl) (fun _ _ _ h => h) E.out (Or.inl ⟨by rfl, fun w hw => by go_simp; try (with_reducible rfl)⟩) ?_
          simp only [Act.put, List.setIfInBounds_toArray, List.set_cons_zero, List.set_cons_succ]
          refine tk15 (v := .bool true) (by kernel_rfl) (by kernel_rfl) (by kernel_rfl) (fun _ _ _ h => h) E.out (Or.inl ⟨by rfl, fun w hw => by go_simp; try (with_reducible rfl)⟩) ?_
          simp only [Act.put, List.setIfInBounds_toArray, List.set_cons_zero, List.set_cons_succ]
          refine tk16 (v := .bool true) (by kernel_rfl) (by kernel_rfl) (by kernel_rfl) (fun _ _ _ h => h) E.out (Or.inl ⟨by rfl, fun w hw => by go_simp; try (with_reducible rfl)⟩) ?_
          simp only [Act.put, List.setIfInBounds_toArray, List.set_cons_zero, List.set_cons_succ]
          refine tk17 (v := .int .i64 (d : Int)) (by kernel_rfl) (by kernel_rfl) (by kernel_rfl) (fun _ _ _ h => h) E.out (Or.inl ⟨by rfl, fun w hw => by go_simp; try (with_reducible rfl)⟩) ?_
          simp only [Act.put, List.setIfInBounds_toArray, List.set_cons_zero, List.set_cons_succ]
          refine tk18 (v := .int .u64 (b : Int)) (by kernel_rfl) (by kernel_rfl) (by kernel_rfl) (fun _ _ _ h => h) E.out (Or.inl ⟨by rfl, fun w hw => by go_simp; try (with_reducible rfl)⟩) ?_
          simp only [Act.put, List.setIfInBounds_toArray, List.set_cons_zero, List.set_cons_succ]
          refine tk19 (v := .slice (some ⟨blk, off, none⟩) m cap) (by kernel_rfl) (by kernel_rfl) (by kernel_rfl) (fun _ _ _ h => h) E.out (Or.inl ⟨by rfl, fun w hw => by go_simp; try (with_reducible rfl)⟩) ?_
          simp only [Act.put, List.setIfInBounds_toArray, List.set_cons_zero, List.set_cons_succ]
          refine tk20 (v := .int .u64 (b : Int)) (by kernel_rfl) (by kernel_rfl) (by kernel_rfl) (fun _ _ _ h => h) E.out (Or.inl ⟨by rfl, fun w hw => by go_simp; try (with_reducible rfl)⟩) ?_
          simp only [Act.put, List.setIfInBounds_toArray, List.set_cons_zero, List.set_cons_succ]
          refine tk21 (v := .pointer (some ⟨blk, off + b * 32, none⟩)) (by kernel_rfl) (by kernel_rfl) (by kernel_rfl) (fun _ _ _ h => h) E.out (Or.inl ⟨by rfl, fun w hw => by go_simp; try (with_reducible rfl)⟩) ?_
          simp only [Act.put, List.setIfInBounds_toArray, List.set_cons_zero, List.set_cons_succ]
          refine tk22 (by kernel_rfl) (by kernel_rfl) (by kernel_rfl) (fun _ _ _ h => h) E.out (yieldsIf_load_mid (by rfl) _ _ rfl (blk) (off + b * 32) rfl (rowV 32 F) _ (fun _ hw => HLEAF.out _ hw.below) Tryd.underlying28 rfl (info_hash32 _)) ?_
          simp only [Act.put, List.setIfInBounds_toArray, List.set_cons_zero, List.set_cons_succ]
          refine tk23 (by kernel_rfl) (by kernel_rfl) (by kernel_rfl) (fun _ _ _ h => h) E.out (yieldsIf_load_mid (by rfl) _ _ rfl (g15) (0) rfl (rowV 1024 (pc P)) _ (fun _ hw => (hw.get 0 rfl).range) Tryd.underlying29 rfl (info_pf _)) ?_
          simp only [Act.put, List.setIfInBounds_toArray, List.set_cons_zero, List.set_cons_succ]
          refine tk24 (by kernel_rfl) (by kernel_rfl) (by kernel_rfl) (fun _ _ _ h => h) E.out (yieldsIf_load_mid (by rfl) _ _ rfl (w.heap.size) (0) rfl (rowV 32 o) _ (fun _ hw => HOX.out _ hw.below) Tryd.underlying28 rfl (info_hash32 _)) ?_
          simp only [Act.put, List.setIfInBounds_toArray, List.set_cons_zero, List.set_cons_succ]
          refine tk25 (by kernel_rfl) (by kernel_rfl) (by kernel_rfl) (fun _ _ _ h => h) E.out (yieldsIf_load_mid (by rfl) _ _ rfl (g15) (0) rfl (rowV 1024 (pc P)) _ (fun _ hw => (hw.get 0 rfl).range) Tryd.underlying29 rfl (info_pf _)) ?_
          simp only [Act.put, List.setIfInBounds_toArray, List.set_cons_zero, List.set_cons_succ]
          refine wpAnyH_ready (rs := [26]) (by kernel_rfl) (by simp) ?_
          refine rd26 (fun K hK => ?_) AllReadyH.nil
          go_simp
          refine (collides_any d b F o P P HD.out HBI.out HFO.out HOO.out HPO.out HPO.out (HT.out.below E.out.below)).mono ?_
          rintro e we ⟨⟨q, rfl, hq⟩, hb⟩
          simp only []
          obtain rfl := hq (by rw [HCLF.out]; exact sameH_flip e2) (sameH_flip e1)
          replace E := hide (E.out.after hb)
          clear hb hq
          refine hK.out _ _ E.out (fun _ => ?_)
          clear hK K
          refine tk27 (v := .bool false) (by kernel_rfl) (by kernel_rfl) (by kernel_rfl) (fun _ _ _ h => h) E.out (Or.inl ⟨by rfl, fun w hw => by go_simp; try (with_reducible rfl)⟩) ?_
          simp only [Act.put, List.setIfInBounds_toArray, List.set_cons_zero, List.set_cons_succ]
          refine tk28 (v := .bool false) (by kernel_rfl) (by kernel_rfl) (by kernel_rfl) (fun _ _ _ h => h) E.out (Or.inl ⟨by rfl, fun w hw => by go_simp; try (with_reducible rfl)⟩) ?_
          simp only [Act.put, List.setIfInBounds_toArray, List.set_cons_zero, List.set_cons_succ]
          refine wpAnyH_done (by kernel_rfl) ?_ _
          try simp only [Act.put]
          clear hse
          go_wp2
          go_roundg (k - b - 1)
          case measure => have := HB.out; omega
          case rel => exact ⟨b + 1, by omega, by go_num, E.out.tail⟩
    · obtain rfl : b = k := by have := HB.out; omega
      go_wp2
      go_ret
      exact ⟨rfl, bOn BB.out E.out.below⟩
end Go.Proofs.YtjkhboejhcbdpaaDoor
