/- The contracts of sponsionlaw11.made and sponsionlaw11.fit over this translation. The contract of sponsionlaw11.fit over this translation (written by gen-prooffit.py). -/
import Derived.Test.YtjkhboejhcbdpaaDoorProofEq
import Derived.Test.YtjkhboejhcbdpaaDoorTreeAppend
import Derived.Test.YtjkhboejhcbdpaaDoorRef10
import Derived.Test.YtjkhboejhcbdpaaDoorHand
/- The contracts of sponsionlaw11.made and sponsionlaw11.fit over this translation. -/
namespace Go.Proofs.YtjkhboejhcbdpaaDoor
open Go.RowKit Go.Lib
attribute [local go_sem] setCell_drewN alloc_drewN

/-- A tree with a list's first leaves, under way. -/
structure MD (w0 w : World) (d : Nat) (M : List Hs) : Prop where
  tree : ∃ S, Tr w w0.heap.size S d M ∧ ∀ k, S k → w0.heap.size ≤ k
  below : Below w0.heap.size w0 w
theorem take_snoc {L : List Hs} {k : Nat} {x : Hs} (h : L[k]? = some x) : L.take (k + 1) = L.take k ++ [x] := by rw [List.take_add_one, h]; rfl
set_option maxRecDepth 100000 in
set_option maxHeartbeats 8000000 in
theorem made_any {w : World} (d : Nat) (hd : d ≤ 32) (ao : Option Addr) (cap : Nat) (L : List Hs) (hl : Hl w ao L) (hok : Hoks L) (hlen : L.length ≤ 2 ^ d) (hfew : L.length ≤ 100) (ht : Tab w 1) :
    Calls Tryd.prog 10 #[.int .i64 d, .slice ao L.length cap] w fun e w' => e = .returned (.pointer (some ⟨w.heap.size, 0, none⟩)) ∧ MD w w' d L := by
  have HT := hide ht; have HL := hide hl; have HOK := hide hok; have HLEN := hide hlen; have HFEW := hide hfew
  have hli : (L.length : Int) ≤ 100 := by omega
  clear ht hl hok hlen hfew
  go_enter Tryd.func10, Tryd.ntmps10
  go_wp2_with fail
  refine (tnew_any d hd).mono ?_
  rintro e w1 ⟨rfl, hbox, hb⟩
  have D1 : Hid (MD w w1 d []) := ⟨⟨_, Tr.new hd hbox, fun k hk => by rw [hk]; exact Nat.le_refl _⟩, hb⟩
  clear hbox hb
  go_wp2_with fail
  go_loopg [12] L.length (fun gk t wr => ∃ k : Nat, gk + k = L.length ∧ t = .int .i64 k ∧ MD w wr d (L.take k))
  case atStart => exact ⟨0, by omega, rfl, by simpa using D1.out⟩
  case round =>
    clear D1
    obtain ⟨k, hk, rfl, hm⟩ := hrel
    have HK := hide hk; have D := hide hm
    clear hk hm
    by_cases hlt : k < L.length
    · have hki : (k : Int) < (L.length : Int) := by omega
      obtain ⟨F, hF⟩ : ∃ F, L[k]? = some F := ⟨L[k], by simp [hlt]⟩
      have HFO : Hid (Hok F) := HOK.out F (List.mem_of_getElem? hF)
      have HS := hide (take_snoc hF)
      obtain ⟨b, off, rfl, hbl, hra⟩ := HL.out.get hF
      have hrow : Hid (wr.rangeAt b (off + k * 32) (rowV 32 F)) := fun j v hv => (D.out.below.cell (p := ⟨b, off + k * 32 + j, none⟩) hbl).trans (hra j v hv)
      have R1 := hide (BRow.zeros32 wr (g := wr.heap.size) rfl)
      have B1 : Hid (Below w.heap.size w (wr.alloc (.cells #[.int .u8 0, .int .u8 0, .int .u8 0, .int .u8 0, .int .u8 0, .int .u8 0, .int .u8 0, .int .u8 0, .int .u8 0, .int .u8 0, .int .u8 0, .int .u8 0, .int .u8 0, .int .u8 0, .int .u8 0, .int .u8 0, .int .u8 0, .int .u8 0, .int .u8 0, .int .u8 0, .int .u8 0, .int .u8 0, .int .u8 0, .int .u8 0, .int .u8 0, .int .u8 0, .int .u8 0, .int .u8 0, .int .u8 0, .int .u8 0, .int .u8 0, .int .u8 0] 28))) := bAl D.out.below
      obtain ⟨S, hT, hlow⟩ := D.out.tree
      have T1 := hide (hT.below (bAl (o := (.cells #[.int .u8 0, .int .u8 0, .int .u8 0, .int .u8 0, .int .u8 0, .int .u8 0, .int .u8 0, .int .u8 0, .int .u8 0, .int .u8 0, .int .u8 0, .int .u8 0, .int .u8 0, .int .u8 0, .int .u8 0, .int .u8 0, .int .u8 0, .int .u8 0, .int .u8 0, .int .u8 0, .int .u8 0, .int .u8 0, .int .u8 0, .int .u8 0, .int .u8 0, .int .u8 0, .int .u8 0, .int .u8 0, .int .u8 0, .int .u8 0, .int .u8 0, .int .u8 0] 28)) (bMe wr)))
      have HTL : Hid (∀ k, S k → k < wr.heap.size) := hT.box.low
      have HLOW := hide hlow
      have HSZ : Hid (w.heap.size ≤ wr.heap.size) := D.out.below.size
      clear hF hbl hra hT hlow
      go_wp2_with (first
        | refine wpList_load_mid rfl 28 _ rfl b (off + k * 32) rfl (rowV 32 F) _ hrow.out Tryd.underlying28 rfl (info_hash32 _) ?_
        | refine wpList_store_stop rfl 28 _ _ rfl wr.heap.size 0 (rowV 32 F) rfl rfl (R1.out.thereA F) (info_hash32A F) (rowV_oneA _ _) ?_)
      intro w2 hw2
      have E : Hid (BRow w2 wr.heap.size 32 F ∧ Tr w2 w.heap.size S d (L.take k) ∧ Below w.heap.size w w2) := by
        show _ ∧ _ ∧ _
        rw [hw2.out]
        exact ⟨R1.out.stored F, T1.out.of (by rw [setCells_size]; exact Nat.le_refl _) (fun q hq => setCells_block _ _ _ _ _ (by have := HTL.out q hq; omega)), setCells_below B1.out HSZ.out _ _⟩
      clear hw2 R1 T1 B1 HTL HSZ D hrow
      generalize wr.heap.size = g at *
      go_wp2_with (refine wpList_load_mid rfl 28 _ rfl g 0 rfl (rowV 32 F) _ E.out.1.range Tryd.underlying28 rfl (info_hash32 _) ?_)
      have hkl : (L.take k).length = k := by rw [List.length_take]; omega
      refine (append_any E.out.2.1 F HFO.out (by rw [hkl]; have := HLEN.out; omega) (by rw [hkl]; have := HFEW.out; omega) HT.out E.out.2.2 HLOW.out).mono ?_
      rintro e w3 ⟨rfl, S1, hT, hM⟩
      have D3 : Hid (MD w w3 d (L.take (k + 1))) := ⟨⟨S1, by rw [HS.out]; exact hT, fun q hq => by
        rcases hM.own q hq with e | e
        · exact HLOW.out q e
        · exact Nat.le_trans E.out.2.2.size e⟩, hM.below E.out.2.2 HLOW.out⟩
      clear hT hM E hkl
      go_wp2
      go_roundg (L.length - k - 1)
      case measure => have := HK.out; omega
      case rel => exact ⟨k + 1, by omega, by go_num, D3.out⟩
    · obtain rfl : k = L.length := by have := HK.out; omega
      rw [List.take_length] at D
      clear HK hlt
      go_wp2
      go_ret
      exact ⟨rfl, D.out⟩
end Go.Proofs.YtjkhboejhcbdpaaDoor

/- The contract of sponsionlaw11.fit over this translation (written by gen-prooffit.py). -/
namespace Go.Proofs.YtjkhboejhcbdpaaDoor
open Go.RowKit Go.Lib
attribute [local go_sem] setCell_drewN alloc_drewN

/-- So many leaves are taken. -/
def fitN (d n : Nat) : Nat := min (min n 30) (2 ^ d)
set_option maxRecDepth 100000 in
set_option maxHeartbeats 8000000 in
theorem fit_any {w : World} (a : Int) (d : Nat) (ha0 : 0 ≤ a) (ha1 : a < 256) (hd : a % 33 = (d : Int)) (ao : Option Addr) (cap : Nat) (L : List Hs) (hcap : L.length ≤ cap) (hmax : cap ≤ maxLen) (hnone : ao = none → cap = 0) :
    Calls Tryd.prog 8 #[.int .u8 a, .slice ao L.length cap] w fun e w' => e = .returned (.tuple #[.int .i64 d, .slice ao (fitN d L.length) cap]) ∧ Below w.heap.size w w' := by
  have hd32 : d ≤ 32 := by omega
  have HD := hide hd32
  have hdi : (d : Int) ≤ 32 := by omega
  unfold maxLen at hmax
  obtain ⟨n, hn⟩ : ∃ n, L.length = n := ⟨_, rfl⟩
  rw [hn] at hcap ⊢
  have hni : (n : Int) ≤ 9223372036854775807 := by omega
  have hwd : IntKind.i64.wrap (d : Int) = (d : Int) := by rw [IntKind.wrap_i64]; omega
  obtain ⟨p, hp⟩ : ∃ p, 2 ^ d = p := ⟨_, rfl⟩
  have HP := hide hp
  have hpi : (p : Int) ≤ 4294967296 := by
    have : 2 ^ d ≤ 2 ^ 32 := Nat.pow_le_pow_right (by omega) hd32
    omega
  have hfit : ∀ m, min (min n 30) p = m → fitN d n = m := fun m e => by rw [← e, ← hp]; rfl
  have HFIT := hide hfit; have HFORM : Hid (ao = none ∨ ∃ b, ao = some b) := (by cases ao; exact .inl rfl; exact .inr ⟨_, rfl⟩); have HNOC := hide hnone
  clear hn hd32 hp hfit hnone
  by_cases h30 : (n : Int) ≤ 30
  · by_cases hqp : (n : Int) ≤ (p : Int)
    · rw [HFIT.out n (by omega)]
      have hmc : (n : Int) ≤ (cap : Int) := by omega
      go_enter Tryd.func8, Tryd.ntmps8
      go_wp2_with fail
      have E : Hid (Below w.heap.size w w.drew) := (bMe w).drew
      refine wp_region_held_drew (S := fun w1 => Below w.heap.size w w1) (by kernel_rfl) E.out (fun _ => ?_)
      refine tk0 (v := .int .i64 (d : Int)) (by kernel_rfl) (by kernel_rfl) (by kernel_rfl) (fun _ _ _ h => h) E.out (Or.inl ⟨by rfl, fun w hw => by go_simp; try (with_reducible rfl)⟩) ?_
      simp only [Act.put, List.setIfInBounds_toArray, List.set_cons_zero, List.set_cons_succ]
      refine tk1 (v := .slice ao n cap) (by kernel_rfl) (by kernel_rfl) (by kernel_rfl) (fun _ _ _ h => h) E.out (Or.inl ⟨by rfl, fun w hw => by go_simp; try (with_reducible rfl)⟩) ?_
      simp only [Act.put, List.setIfInBounds_toArray, List.set_cons_zero, List.set_cons_succ]
      refine tk2 (v := .int .u64 (n : Int)) (by kernel_rfl) (by kernel_rfl) (by kernel_rfl) (fun _ _ _ h => h) E.out (Or.inl ⟨by rfl, fun w hw => by go_simp; try (with_reducible rfl)⟩) ?_
      simp only [Act.put, List.setIfInBounds_toArray, List.set_cons_zero, List.set_cons_succ]
      refine tk3 (v := .int .i64 (d : Int)) (by kernel_rfl) (by kernel_rfl) (by kernel_rfl) (fun _ _ _ h => h) E.out (Or.inl ⟨by rfl, fun w hw => by go_simp; try (with_reducible rfl)⟩) ?_
      simp only [Act.put, List.setIfInBounds_toArray, List.set_cons_zero, List.set_cons_succ]
      refine wpAnyH_ready (rs := [4]) (by kernel_rfl) (by simp) ?_
      refine rd4 (fun K hK => ?_) AllReadyH.nil
      go_simp
      refine (places_yes d 0 HD.out (Nat.zero_le _)).mono ?_
      rintro e w8 ⟨rfl, hw8⟩
      simp only []
      rw [Nat.sub_zero, HP.out]
      replace E : Hid (Below w.heap.size w w8) := by rw [hw8]; exact E.out
      clear hw8
      refine hK.out _ _ E.out (fun _ => ?_)
      clear hK K
      refine tk5 (v := .int .u64 (n : Int)) (by kernel_rfl) (by kernel_rfl) (by kernel_rfl) (fun _ _ _ h => h) E.out (Or.inl ⟨by rfl, fun w hw => by go_simp; all_goals (try (with_reducible rfl)); all_goals (try (intro h; omega))⟩) ?_
      simp only [Act.put, List.setIfInBounds_toArray, List.set_cons_zero, List.set_cons_succ]
      refine tk6 (v := .slice ao n cap) (by kernel_rfl) (by kernel_rfl) (by kernel_rfl) (fun _ _ _ h => h) E.out (Or.inl ⟨by rfl, fun w hw => by rcases HFORM.out with rfl | ⟨b2, rfl⟩; (obtain rfl := HNOC.out rfl; obtain hm0 : n = 0 := (by omega); subst hm0; go_simp; try (with_reducible rfl)); (by_cases hc0 : cap = 0; (subst hc0; obtain hm0 : n = 0 := (by omega); subst hm0; go_simp; try (with_reducible rfl)); (go_simp; try (with_reducible rfl)))⟩) ?_
      simp only [Act.put, List.setIfInBounds_toArray, List.set_cons_zero, List.set_cons_succ]
      refine tk7 (v := .int .i64 (d : Int)) (by kernel_rfl) (by kernel_rfl) (by kernel_rfl) (fun _ _ _ h => h) E.out (Or.inl ⟨by rfl, fun w hw => by go_simp; try (with_reducible rfl)⟩) ?_
      simp only [Act.put, List.setIfInBounds_toArray, List.set_cons_zero, List.set_cons_succ]
      refine tk8 (v := .slice ao n cap) (by kernel_rfl) (by kernel_rfl) (by kernel_rfl) (fun _ _ _ h => h) E.out (Or.inl ⟨by rfl, fun w hw => by go_simp; try (with_reducible rfl)⟩) ?_
      simp only [Act.put, List.setIfInBounds_toArray, List.set_cons_zero, List.set_cons_succ]
      refine wpAnyH_done (by kernel_rfl) ?_ _
      try simp only [Act.put]
      go_wp2
      go_ret2
      exact ⟨rfl, E.out⟩
    · have hqp2 : (p : Int) < (n : Int) := by omega
      clear hqp
      rw [HFIT.out p (by omega)]
      have hmc : (p : Int) ≤ (cap : Int) := by omega
      go_enter Tryd.func8, Tryd.ntmps8
      go_wp2_with fail
      have E : Hid (Below w.heap.size w w.drew) := (bMe w).drew
      refine wp_region_held_drew (S := fun w1 => Below w.heap.size w w1) (by kernel_rfl) E.out (fun _ => ?_)
      refine tk0 (v := .int .i64 (d : Int)) (by kernel_rfl) (by kernel_rfl) (by kernel_rfl) (fun _ _ _ h => h) E.out (Or.inl ⟨by rfl, fun w hw => by go_simp; try (with_reducible rfl)⟩) ?_
      simp only [Act.put, List.setIfInBounds_toArray, List.set_cons_zero, List.set_cons_succ]
      refine tk1 (v := .slice ao n cap) (by kernel_rfl) (by kernel_rfl) (by kernel_rfl) (fun _ _ _ h => h) E.out (Or.inl ⟨by rfl, fun w hw => by go_simp; try (with_reducible rfl)⟩) ?_
      simp only [Act.put, List.setIfInBounds_toArray, List.set_cons_zero, List.set_cons_succ]
      refine tk2 (v := .int .u64 (n : Int)) (by kernel_rfl) (by kernel_rfl) (by kernel_rfl) (fun _ _ _ h => h) E.out (Or.inl ⟨by rfl, fun w hw => by go_simp; try (with_reducible rfl)⟩) ?_
      simp only [Act.put, List.setIfInBounds_toArray, List.set_cons_zero, List.set_cons_succ]
      refine tk3 (v := .int .i64 (d : Int)) (by kernel_rfl) (by kernel_rfl) (by kernel_rfl) (fun _ _ _ h => h) E.out (Or.inl ⟨by rfl, fun w hw => by go_simp; try (with_reducible rfl)⟩) ?_
      simp only [Act.put, List.setIfInBounds_toArray, List.set_cons_zero, List.set_cons_succ]
      refine wpAnyH_ready (rs := [4]) (by kernel_rfl) (by simp) ?_
      refine rd4 (fun K hK => ?_) AllReadyH.nil
      go_simp
      refine (places_yes d 0 HD.out (Nat.zero_le _)).mono ?_
      rintro e w8 ⟨rfl, hw8⟩
      simp only []
      rw [Nat.sub_zero, HP.out]
      replace E : Hid (Below w.heap.size w w8) := by rw [hw8]; exact E.out
      clear hw8
      refine hK.out _ _ E.out (fun _ => ?_)
      clear hK K
      refine tk5 (v := .int .u64 (p : Int)) (by kernel_rfl) (by kernel_rfl) (by kernel_rfl) (fun _ _ _ h => h) E.out (Or.inl ⟨by rfl, fun w hw => by go_simp; all_goals (try (with_reducible rfl)); all_goals (try (intro h; omega))⟩) ?_
      simp only [Act.put, List.setIfInBounds_toArray, List.set_cons_zero, List.set_cons_succ]
      refine tk6 (v := .slice ao p cap) (by kernel_rfl) (by kernel_rfl) (by kernel_rfl) (fun _ _ _ h => h) E.out (Or.inl ⟨by rfl, fun w hw => by rcases HFORM.out with rfl | ⟨b2, rfl⟩; (obtain rfl := HNOC.out rfl; obtain hm0 : p = 0 := (by omega); subst hm0; go_simp; try (with_reducible rfl)); (by_cases hc0 : cap = 0; (subst hc0; obtain hm0 : p = 0 := (by omega); subst hm0; go_simp; try (with_reducible rfl)); (go_simp; try (with_reducible rfl)))⟩) ?_
      simp only [Act.put, List.setIfInBounds_toArray, List.set_cons_zero, List.set_cons_succ]
      refine tk7 (v := .int .i64 (d : Int)) (by kernel_rfl) (by kernel_rfl) (by kernel_rfl) (fun _ _ _ h => h) E.out (Or.inl ⟨by rfl, fun w hw => by go_simp; try (with_reducible rfl)⟩) ?_
      simp only [Act.put, List.setIfInBounds_toArray, List.set_cons_zero, List.set_cons_succ]
      refine tk8 (v := .slice ao p cap) (by kernel_rfl) (by kernel_rfl) (by kernel_rfl) (fun _ _ _ h => h) E.out (Or.inl ⟨by rfl, fun w hw => by go_simp; try (with_reducible rfl)⟩) ?_
      simp only [Act.put, List.setIfInBounds_toArray, List.set_cons_zero, List.set_cons_succ]
      refine wpAnyH_done (by kernel_rfl) ?_ _
      try simp only [Act.put]
      go_wp2
      go_ret2
      exact ⟨rfl, E.out⟩
  · have h30b : (30 : Int) < (n : Int) := by omega
    clear h30
    by_cases hqp : (30 : Int) ≤ (p : Int)
    · rw [HFIT.out 30 (by omega)]
      have hmc : (30 : Int) ≤ (cap : Int) := by omega
      go_enter Tryd.func8, Tryd.ntmps8
      go_wp2_with fail
      have E : Hid (Below w.heap.size w w.drew) := (bMe w).drew
      refine wp_region_held_drew (S := fun w1 => Below w.heap.size w w1) (by kernel_rfl) E.out (fun _ => ?_)
      refine tk0 (v := .int .i64 (d : Int)) (by kernel_rfl) (by kernel_rfl) (by kernel_rfl) (fun _ _ _ h => h) E.out (Or.inl ⟨by rfl, fun w hw => by go_simp; try (with_reducible rfl)⟩) ?_
      simp only [Act.put, List.setIfInBounds_toArray, List.set_cons_zero, List.set_cons_succ]
      refine tk1 (v := .slice ao n cap) (by kernel_rfl) (by kernel_rfl) (by kernel_rfl) (fun _ _ _ h => h) E.out (Or.inl ⟨by rfl, fun w hw => by go_simp; try (with_reducible rfl)⟩) ?_
      simp only [Act.put, List.setIfInBounds_toArray, List.set_cons_zero, List.set_cons_succ]
      refine tk2 (v := .int .u64 (30 : Int)) (by kernel_rfl) (by kernel_rfl) (by kernel_rfl) (fun _ _ _ h => h) E.out (Or.inl ⟨by rfl, fun w hw => by go_simp; try (with_reducible rfl)⟩) ?_
      simp only [Act.put, List.setIfInBounds_toArray, List.set_cons_zero, List.set_cons_succ]
      refine tk3 (v := .int .i64 (d : Int)) (by kernel_rfl) (by kernel_rfl) (by kernel_rfl) (fun _ _ _ h => h) E.out (Or.inl ⟨by rfl, fun w hw => by go_simp; try (with_reducible rfl)⟩) ?_
      simp only [Act.put, List.setIfInBounds_toArray, List.set_cons_zero, List.set_cons_succ]
      refine wpAnyH_ready (rs := [4]) (by kernel_rfl) (by simp) ?_
      refine rd4 (fun K hK => ?_) AllReadyH.nil
      go_simp
      refine (places_yes d 0 HD.out (Nat.zero_le _)).mono ?_
      rintro e w8 ⟨rfl, hw8⟩
      simp only []
      rw [Nat.sub_zero, HP.out]
      replace E : Hid (Below w.heap.size w w8) := by rw [hw8]; exact E.out
      clear hw8
      refine hK.out _ _ E.out (fun _ => ?_)
      clear hK K
      refine tk5 (v := .int .u64 (30 : Int)) (by kernel_rfl) (by kernel_rfl) (by kernel_rfl) (fun _ _ _ h => h) E.out (Or.inl ⟨by rfl, fun w hw => by go_simp; all_goals (try (with_reducible rfl)); all_goals (try (intro h; omega))⟩) ?_
      simp only [Act.put, List.setIfInBounds_toArray, List.set_cons_zero, List.set_cons_succ]
      refine tk6 (v := .slice ao 30 cap) (by kernel_rfl) (by kernel_rfl) (by kernel_rfl) (fun _ _ _ h => h) E.out (Or.inl ⟨by rfl, fun w hw => by rcases HFORM.out with rfl | ⟨b2, rfl⟩; (obtain rfl := HNOC.out rfl; obtain hm0 : 30 = 0 := (by omega); first | (exfalso; omega) | (subst hm0; go_simp; try (with_reducible rfl))); (by_cases hc0 : cap = 0; (exfalso; omega); (go_simp; try (with_reducible rfl)))⟩) ?_
      simp only [Act.put, List.setIfInBounds_toArray, List.set_cons_zero, List.set_cons_succ]
      refine tk7 (v := .int .i64 (d : Int)) (by kernel_rfl) (by kernel_rfl) (by kernel_rfl) (fun _ _ _ h => h) E.out (Or.inl ⟨by rfl, fun w hw => by go_simp; try (with_reducible rfl)⟩) ?_
      simp only [Act.put, List.setIfInBounds_toArray, List.set_cons_zero, List.set_cons_succ]
      refine tk8 (v := .slice ao 30 cap) (by kernel_rfl) (by kernel_rfl) (by kernel_rfl) (fun _ _ _ h => h) E.out (Or.inl ⟨by rfl, fun w hw => by go_simp; try (with_reducible rfl)⟩) ?_
      simp only [Act.put, List.setIfInBounds_toArray, List.set_cons_zero, List.set_cons_succ]
      refine wpAnyH_done (by kernel_rfl) ?_ _
      try simp only [Act.put]
      go_wp2
      go_ret2
      exact ⟨rfl, E.out⟩
    · have hqp2 : (p : Int) < 30 := by omega
      clear hqp
      rw [HFIT.out p (by omega)]
      have hmc : (p : Int) ≤ (cap : Int) := by omega
      go_enter Tryd.func8, Tryd.ntmps8
      go_wp2_with fail
      have E : Hid (Below w.heap.size w w.drew) := (bMe w).drew
      refine wp_region_held_drew (S := fun w1 => Below w.heap.size w w1) (by kernel_rfl) E.out (fun _ => ?_)
      refine tk0 (v := .int .i64 (d : Int)) (by kernel_rfl) (by kernel_rfl) (by kernel_rfl) (fun _ _ _ h => h) E.out (Or.inl ⟨by rfl, fun w hw => by go_simp; try (with_reducible rfl)⟩) ?_
      simp only [Act.put, List.setIfInBounds_toArray, List.set_cons_zero, List.set_cons_succ]
      refine tk1 (v := .slice ao n cap) (by kernel_rfl) (by kernel_rfl) (by kernel_rfl) (fun _ _ _ h => h) E.out (Or.inl ⟨by rfl, fun w hw => by go_simp; try (with_reducible rfl)⟩) ?_
      simp only [Act.put, List.setIfInBounds_toArray, List.set_cons_zero, List.set_cons_succ]
      refine tk2 (v := .int .u64 (30 : Int)) (by kernel_rfl) (by kernel_rfl) (by kernel_rfl) (fun _ _ _ h => h) E.out (Or.inl ⟨by rfl, fun w hw => by go_simp; try (with_reducible rfl)⟩) ?_
      simp only [Act.put, List.setIfInBounds_toArray, List.set_cons_zero, List.set_cons_succ]
      refine tk3 (v := .int .i64 (d : Int)) (by kernel_rfl) (by kernel_rfl) (by kernel_rfl) (fun _ _ _ h => h) E.out (Or.inl ⟨by rfl, fun w hw => by go_simp; try (with_reducible rfl)⟩) ?_
      simp only [Act.put, List.setIfInBounds_toArray, List.set_cons_zero, List.set_cons_succ]
      refine wpAnyH_ready (rs := [4]) (by kernel_rfl) (by simp) ?_
      refine rd4 (fun K hK => ?_) AllReadyH.nil
      go_simp
      refine (places_yes d 0 HD.out (Nat.zero_le _)).mono ?_
      rintro e w8 ⟨rfl, hw8⟩
      simp only []
      rw [Nat.sub_zero, HP.out]
      replace E : Hid (Below w.heap.size w w8) := by rw [hw8]; exact E.out
      clear hw8
      refine hK.out _ _ E.out (fun _ => ?_)
      clear hK K
      refine tk5 (v := .int .u64 (p : Int)) (by kernel_rfl) (by kernel_rfl) (by kernel_rfl) (fun _ _ _ h => h) E.out (Or.inl ⟨by rfl, fun w hw => by go_simp; all_goals (try (with_reducible rfl)); all_goals (try (intro h; omega))⟩) ?_
      simp only [Act.put, List.setIfInBounds_toArray, List.set_cons_zero, List.set_cons_succ]
      refine tk6 (v := .slice ao p cap) (by kernel_rfl) (by kernel_rfl) (by kernel_rfl) (fun _ _ _ h => h) E.out (Or.inl ⟨by rfl, fun w hw => by rcases HFORM.out with rfl | ⟨b2, rfl⟩; (obtain rfl := HNOC.out rfl; obtain hm0 : p = 0 := (by omega); subst hm0; go_simp; try (with_reducible rfl)); (by_cases hc0 : cap = 0; (subst hc0; obtain hm0 : p = 0 := (by omega); subst hm0; go_simp; try (with_reducible rfl)); (go_simp; try (with_reducible rfl)))⟩) ?_
      simp only [Act.put, List.setIfInBounds_toArray, List.set_cons_zero, List.set_cons_succ]
      refine tk7 (v := .int .i64 (d : Int)) (by kernel_rfl) (by kernel_rfl) (by kernel_rfl) (fun _ _ _ h => h) E.out (Or.inl ⟨by rfl, fun w hw => by go_simp; try (with_reducible rfl)⟩) ?_
      simp only [Act.put, List.setIfInBounds_toArray, List.set_cons_zero, List.set_cons_succ]
      refine tk8 (v := .slice ao p cap) (by kernel_rfl) (by kernel_rfl) (by kernel_rfl) (fun _ _ _ h => h) E.out (Or.inl ⟨by rfl, fun w hw => by go_simp; try (with_reducible rfl)⟩) ?_
      simp only [Act.put, List.setIfInBounds_toArray, List.set_cons_zero, List.set_cons_succ]
      refine wpAnyH_done (by kernel_rfl) ?_ _
      try simp only [Act.put]
      go_wp2
      go_ret2
      exact ⟨rfl, E.out⟩
end Go.Proofs.YtjkhboejhcbdpaaDoor
