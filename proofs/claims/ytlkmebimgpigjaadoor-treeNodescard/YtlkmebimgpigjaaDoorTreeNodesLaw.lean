/- The walk of sponsionlaw10.TreeNodes over this translation (written by gen-treenodeslaw.py). -/
import Derived.Test.YtlkmebimgpigjaaDoorTreePlay
import Derived.Test.YtlkmebimgpigjaaDoorTreeLives
import Derived.Test.YtlkmebimgpigjaaDoorClassy
import Derived.OpenShut
namespace Go.Proofs.YtlkmebimgpigjaaDoor
open Go.RowKit Go.Lib
attribute [local go_sem] setCell_drewN alloc_drewN eqHash sameH_self

theorem hz_eq (w : World) : (Op.equalIn 10000 32 (.agg (rowV 32 hz).toArray) (.agg #[.int .u8 0, .int .u8 0, .int .u8 0, .int .u8 0, .int .u8 0, .int .u8 0, .int .u8 0, .int .u8 0, .int .u8 0, .int .u8 0, .int .u8 0, .int .u8 0, .int .u8 0, .int .u8 0, .int .u8 0, .int .u8 0, .int .u8 0, .int .u8 0, .int .u8 0, .int .u8 0, .int .u8 0, .int .u8 0, .int .u8 0, .int .u8 0, .int .u8 0, .int .u8 0, .int .u8 0, .int .u8 0, .int .u8 0, .int .u8 0, .int .u8 0, .int .u8 0])).run Tryd.prog w = .ok true w := by
  have h := eqHash hz hz w
  rw [sameH_self] at h
  exact h
/-- What stands while a node is held against the document's. -/
structure NX (w0 : World) (g : Nat) (ao : Option Addr) (L : List Hs) (N : Hs) (w : World) : Prop where
  box : BRow w g 32 N
  lv : Hl w ao L
  below : Below w0.heap.size w0 w
theorem NX.after {w0 w w' : World} {g : Nat} {ao : Option Addr} {L : List Hs} {N : Hs} (x : NX w0 g ao L N w) (hb : Below w.heap.size w w') : NX w0 g ao L N w' := ⟨x.box.after hb rfl, x.lv.below hb, bOn x.below hb⟩
set_option maxRecDepth 100000 in
set_option maxHeartbeats 8000000 in
theorem treeNodes_walk (a : Int) (xo : Option Addr) (xcap : Nat) (xs : List Ac) (n level i : Int) (w : World) (_ha : (Lit.int .i64 a).wf = true) (hx : xs.length ≤ xcap ∧ xcap ≤ maxLen ∧ Acts w xo xs ∧ ∀ x ∈ xs, Ac.Ok x) (hn : (Lit.int .u64 n).wf = true) (hlv : (Lit.int .i64 level).wf = true) (hi : (Lit.int .u64 i).wf = true)
    (ht : Tab w 1) (ht2 : Tab w 0) :
    Calls Tryd.prog 4 #[.int .i64 a, .slice xo xs.length xcap, .int .u64 n, .int .i64 level, .int .u64 i] w fun e w' => e = .returned (.bool true) ∧ Below w.heap.size w w' := by
  obtain ⟨x1, x2, x3, x4⟩ := hx
  have HT := hide ht; have HT2 := hide ht2; have HX := hide x3; have HOK := hide x4
  unfold maxLen at x2
  have hli : (xs.length : Int) ≤ 9223372036854775807 := by omega
  obtain ⟨n0, n1⟩ := Go.bounds_u64 hn
  obtain ⟨i0, i1⟩ := Go.bounds_u64 hi
  obtain ⟨v0, v1⟩ := Go.bounds_i64 hlv
  clear ht ht2 x3 x4 hn hlv hi
  by_cases hlen : xs.length ≤ 40
  · have hl2 : ¬ (40 : Int) < (xs.length : Int) := by omega
    have HXL := hide hlen
    obtain ⟨d, hd⟩ : ∃ d : Nat, IntKind.u64.wrap a % 33 = (d : Int) := ⟨(IntKind.u64.wrap a % 33).toNat, by omega⟩
    have hd32 : d ≤ 32 := by omega
    have hdi : (d : Int) ≤ 32 := by omega
    have hwd : IntKind.i64.wrap (d : Int) = (d : Int) := by rw [IntKind.wrap_i64]; omega
    have hnn : 0 ≤ IntKind.u64.wrap a := by rw [IntKind.wrap_u64]; omega
    go_enter Tryd.func4, Tryd.ntmps4
    go_wp2_with fail
    refine (lives10_any HT.out).mono ?_
    rintro e w2 ⟨rfl, hb⟩
    have B := hide hb
    clear hb
    go_wp2_with fail
    refine (tnew_any d hd32).mono ?_
    rintro e w3 ⟨rfl, hbox, hb⟩
    have T3 := hide (Tr.new hd32 hbox)
    have B3 := hide (bOn B.out hb)
    have HLO : Hid (∀ k, k = w2.heap.size → w.heap.size ≤ k) := fun k hk => by rw [hk]; exact B.out.size
    clear hbox hb
    go_wp2_with fail
    refine (play_any hd32 T3.out HLO.out B3.out xo xcap xs HX.out HOK.out HXL.out HT.out).mono ?_
    rintro e w4 ⟨gt, ao, cap, L, gx, rfl, hq, hL⟩
    have Q := hide hq
    obtain ⟨S, hT, _⟩ := hq.tree
    have TR := hide hT
    have HLL : Hid (L.length ≤ 40) := by show _ ≤ _; omega
    have hLi : (L.length : Int) ≤ 40 := by omega
    have hzq := fun w => hz_eq w
    clear hq hT T3 B3 HLO B hL hd hnn
    go_wp2_with fail
    by_cases hA : (L.length : Int) < n
    · refine (node_no TR.out n level i (.inl hA)).mono ?_
      rintro e w6 ⟨rfl, hb⟩
      have R6 := hide (BRow.zeros32 w6 (g := w6.heap.size) rfl)
      have B6 := hide (bOn Q.out.below hb)
      clear hb
      go_wp2_with (refine wpList_store_stop rfl 32 _ _ rfl w6.heap.size 0 (rowV 32 hz) rfl rfl (R6.out.thereA hz) (info_hash32A hz) (rowV_oneA _ _) ?_)
      intro w7 hw7
      have E7 : Hid (BRow w7 w6.heap.size 32 hz ∧ Below w.heap.size w w7) := by
        show _ ∧ _
        rw [hw7.out]
        exact ⟨R6.out.stored hz, bOn B6.out (setCells_below (bAl (bMe w6)) (Nat.le_refl _) _ _)⟩
      clear hw7 R6 B6
      generalize w6.heap.size = g7 at *
      go_wp2_with (first
        | refine wpList_load_want 32 _ rfl g7 0 rfl (rowV 32 hz) _ E7.out.1.range Tryd.underlying32 rfl (info_hash32 _) rfl ?_)
      go_ret
      exact ⟨rfl, E7.out.2⟩
    by_cases hB : level < 0 ∨ (d : Int) < level
    · have hB2 : (L.length : Int) < n ∨ level < 0 ∨ (d : Int) < level ∨ ∃ k : Nat, level = k ∧ k ≤ d ∧ ((2 ^ (d - k) : Nat) : Int) ≤ i := by
        rcases hB with h | h
        · exact .inr (.inl h)
        · exact .inr (.inr (.inl h))
      have HB := hide hB
      refine (node_no TR.out n level i hB2).mono ?_
      clear hB hB2
      rintro e w6 ⟨rfl, hb⟩
      have R6 := hide (BRow.zeros32 w6 (g := w6.heap.size) rfl)
      have B6 := hide (bOn Q.out.below hb)
      clear hb
      go_wp2_with (refine wpList_store_stop rfl 32 _ _ rfl w6.heap.size 0 (rowV 32 hz) rfl rfl (R6.out.thereA hz) (info_hash32A hz) (rowV_oneA _ _) ?_)
      intro w7 hw7
      have E7 : Hid (BRow w7 w6.heap.size 32 hz ∧ Below w.heap.size w w7) := by
        show _ ∧ _
        rw [hw7.out]
        exact ⟨R6.out.stored hz, bOn B6.out (setCells_below (bAl (bMe w6)) (Nat.le_refl _) _ _)⟩
      clear hw7 R6 B6
      generalize w6.heap.size = g7 at *
      go_wp2_with (first
        | (go_at_call 15; refine (places_no (d : Int) level HB.out).mono ?_; rintro e8 w8 ⟨rfl, hw8⟩; have hw9 := hw8.symm; clear hw8; subst hw9)
        | refine wpList_load_want 32 _ rfl g7 0 rfl (rowV 32 hz) _ E7.out.1.range Tryd.underlying32 rfl (info_hash32 _) rfl ?_)
      go_ret
      exact ⟨rfl, E7.out.2⟩
    · obtain ⟨k, hk⟩ : ∃ k : Nat, level = (k : Int) := ⟨level.toNat, by omega⟩
      subst hk
      have hkd : k ≤ d := by omega
      have HKD := hide hkd
      have HD32 := hide hd32
      obtain ⟨p, hp⟩ : ∃ p : Int, ((2 ^ (d - k) : Nat) : Int) = p := ⟨_, rfl⟩
      have HP := hide hp
      by_cases hC : p ≤ i
      · refine (node_no TR.out n k i (.inr (.inr (.inr ⟨k, rfl, hkd, by rw [hp]; exact hC⟩)))).mono ?_
        clear hB hp
        rintro e w6 ⟨rfl, hb⟩
        have R6 := hide (BRow.zeros32 w6 (g := w6.heap.size) rfl)
        have B6 := hide (bOn Q.out.below hb)
        clear hb
        go_wp2_with (refine wpList_store_stop rfl 32 _ _ rfl w6.heap.size 0 (rowV 32 hz) rfl rfl (R6.out.thereA hz) (info_hash32A hz) (rowV_oneA _ _) ?_)
        intro w7 hw7
        have E7 : Hid (BRow w7 w6.heap.size 32 hz ∧ Below w.heap.size w w7) := by
          show _ ∧ _
          rw [hw7.out]
          exact ⟨R6.out.stored hz, bOn B6.out (setCells_below (bAl (bMe w6)) (Nat.le_refl _) _ _)⟩
        clear hw7 R6 B6
        generalize w6.heap.size = g7 at *
        go_wp2_with (first
          | (go_at_call 15; refine (places_yes d k HD32.out HKD.out).mono ?_; rintro e8 w8 ⟨rfl, hw8⟩; have hw9 := hw8.symm; clear hw8; subst hw9; rw [HP.out])
          | refine wpList_load_want 32 _ rfl g7 0 rfl (rowV 32 hz) _ E7.out.1.range Tryd.underlying32 rfl (info_hash32 _) rfl ?_)
        go_ret
        exact ⟨rfl, E7.out.2⟩
      · obtain ⟨n', hn'⟩ : ∃ n' : Nat, n = (n' : Int) := ⟨n.toNat, by omega⟩
        obtain ⟨i', hi'⟩ : ∃ i' : Nat, i = (i' : Int) := ⟨i.toNat, by omega⟩
        subst hn' hi'
        have hip : i' < 2 ^ (d - k) := by omega
        have hnl : n' ≤ L.length := by omega
        obtain ⟨N, hN⟩ : ∃ N, tn (L.take n') k i' = N := ⟨_, rfl⟩
        have hbig : (i' + 1) * 2 ^ k ≤ 4294967296 := by
          have h1 : (i' + 1) * 2 ^ k ≤ 2 ^ (d - k) * 2 ^ k := Nat.mul_le_mul_right _ hip
          rw [← Nat.pow_add, Nat.sub_add_cancel hkd] at h1
          have h2 : 2 ^ d ≤ 2 ^ 32 := Nat.pow_le_pow_right (by omega) hd32
          omega
        have hokL : Hoks (L.take n') := fun f hf => TR.out.ok f (List.mem_of_mem_take hf)
        have hlen' : (L.take n').length = n' := by rw [List.length_take]; omega
        have hr := fun (w : World) (h1 : Tab w 0) (h2 : Hl w ao (L.take n')) => rNode_any (cap := cap) (by rw [hlen']; have := HLL.out; omega) hokL k (by omega) (w := w) h1 i' h2 hbig
        rw [hlen', hN] at hr
        have HREF := hide hr
        refine (node_yes TR.out n' k i' hnl hkd hip (HT.out.below Q.out.below)).mono ?_
        rw [hN]
        rintro e w6 ⟨rfl, hb⟩
        have R6 := hide (BRow.zeros32 w6 (g := w6.heap.size) rfl)
        have B6 := hide (bOn Q.out.below hb)
        have HLV := hide (Q.out.lv.below hb)
        clear hb hr hN hbig hokL hlen' hip hp
        go_wp2_with (refine wpList_store_stop rfl 32 _ _ rfl w6.heap.size 0 (rowV 32 N) rfl rfl (R6.out.thereA N) (info_hash32A N) (rowV_oneA _ _) ?_)
        intro w7 hw7
        have E7 : Hid (NX w w6.heap.size ao L N w7) := by
          show NX _ _ _ _ _ _
          rw [hw7.out]
          have hb := (setCells_below (bAl (o := (.cells #[.int .u8 0, .int .u8 0, .int .u8 0, .int .u8 0, .int .u8 0, .int .u8 0, .int .u8 0, .int .u8 0, .int .u8 0, .int .u8 0, .int .u8 0, .int .u8 0, .int .u8 0, .int .u8 0, .int .u8 0, .int .u8 0, .int .u8 0, .int .u8 0, .int .u8 0, .int .u8 0, .int .u8 0, .int .u8 0, .int .u8 0, .int .u8 0, .int .u8 0, .int .u8 0, .int .u8 0, .int .u8 0, .int .u8 0, .int .u8 0, .int .u8 0, .int .u8 0] 32)) (bMe w6)) (Nat.le_refl _) (rowV 32 N) 0)
          exact ⟨R6.out.stored N, HLV.out.lies.below hb, bOn B6.out hb⟩
        have HFORM := hide HLV.out.form
        have HNOC := hide HLV.out.noc
        have hLcap := HLV.out.le
        clear hw7 R6 B6 HLV
        generalize w6.heap.size = g7 at *
        have hni : (n' : Int) ≤ (L.length : Int) := by omega
        have hncap : n' ≤ cap := by omega
        have hncapi : (n' : Int) ≤ (cap : Int) := by omega
        have hip2 : (i' : Int) < p := by omega
        clear hB hC hA
        go_wp2_with (go_at_call 15; refine (places_yes d k HD32.out HKD.out).mono ?_; rintro e8 w8 ⟨rfl, hw8⟩; have hw9 := hw8.symm; clear hw8; subst hw9; rw [HP.out])
        have X : Hid (NX w g7 ao L N w7.drew) := E7.out.after (bMe w7).drew
        refine wp_region_held_drew (S := NX w g7 ao L N) (by kernel_rfl) X.out (fun _ => ?_)
        refine tk0 (v := .bool true) (by kernel_rfl) (by kernel_rfl) (by kernel_rfl) (fun _ _ _ h => h) X.out (Or.inl ⟨by rfl, fun w hw => by go_simp; try (with_reducible rfl)⟩) ?_
        simp only [Act.put, List.setIfInBounds_toArray, List.set_cons_zero, List.set_cons_succ]
        refine tk1 (v := .bool true) (by kernel_rfl) (by kernel_rfl) (by kernel_rfl) (fun _ _ _ h => h) X.out (Or.inl ⟨by rfl, fun w hw => by go_simp; try (with_reducible rfl)⟩) ?_
        simp only [Act.put, List.setIfInBounds_toArray, List.set_cons_zero, List.set_cons_succ]
        refine tk2 (by kernel_rfl) (by kernel_rfl) (by kernel_rfl) (fun _ _ _ h => h) X.out (yieldsIf_load_mid (by rfl) _ _ rfl g7 (0) rfl (rowV 32 N) _ (fun _ hw => hw.box.range) Tryd.underlying32 rfl (info_hash32 _)) ?_
        simp only [Act.put, List.setIfInBounds_toArray, List.set_cons_zero, List.set_cons_succ]
        refine tk3 (v := .slice ao L.length cap) (by kernel_rfl) (by kernel_rfl) (by kernel_rfl) (fun _ _ _ h => h) X.out (Or.inl ⟨by rfl, fun w hw => by go_simp; try (with_reducible rfl)⟩) ?_
        simp only [Act.put, List.setIfInBounds_toArray, List.set_cons_zero, List.set_cons_succ]
        refine tk4 (v := .int .u64 (n' : Int)) (by kernel_rfl) (by kernel_rfl) (by kernel_rfl) (fun _ _ _ h => h) X.out (Or.inl ⟨by rfl, fun w hw => by go_simp; try (with_reducible rfl)⟩) ?_
        simp only [Act.put, List.setIfInBounds_toArray, List.set_cons_zero, List.set_cons_succ]
        refine tk5 (v := .slice ao n' cap) (by kernel_rfl) (by kernel_rfl) (by kernel_rfl) (fun _ _ _ h => h) X.out (Or.inl ⟨by rfl, fun w hw => by rcases HFORM.out with rfl | ⟨b2, off2, rfl⟩; (obtain rfl := HNOC.out rfl; obtain rfl : n' = 0 := (by omega); go_simp; try (with_reducible rfl)); (by_cases hc0 : cap = 0; (subst hc0; obtain rfl : n' = 0 := (by omega); go_simp; try (with_reducible rfl)); (go_simp; try (with_reducible rfl)))⟩) ?_
        simp only [Act.put, List.setIfInBounds_toArray, List.set_cons_zero, List.set_cons_succ]
        refine tk6 (v := .int .i64 (k : Int)) (by kernel_rfl) (by kernel_rfl) (by kernel_rfl) (fun _ _ _ h => h) X.out (Or.inl ⟨by rfl, fun w hw => by go_simp; try (with_reducible rfl)⟩) ?_
        simp only [Act.put, List.setIfInBounds_toArray, List.set_cons_zero, List.set_cons_succ]
        refine tk7 (v := .int .u64 (i' : Int)) (by kernel_rfl) (by kernel_rfl) (by kernel_rfl) (fun _ _ _ h => h) X.out (Or.inl ⟨by rfl, fun w hw => by go_simp; try (with_reducible rfl)⟩) ?_
        simp only [Act.put, List.setIfInBounds_toArray, List.set_cons_zero, List.set_cons_succ]
        refine wpAnyH_ready (rs := [8]) (by kernel_rfl) (by simp) ?_
        refine rd8 (fun K hK => ?_) AllReadyH.nil
        go_simp
        refine (HREF.out _ (HT2.out.below X.out.below) (X.out.lv.take n')).mono ?_
        rintro e9 w9 ⟨rfl, hb⟩
        simp only []
        replace X := hide (X.out.after hb)
        clear hb
        refine hK.out _ _ X.out (fun _ => ?_)
        clear hK K
        refine tk9 (v := .bool true) (by kernel_rfl) (by kernel_rfl) (by kernel_rfl) (fun _ _ _ h => h) X.out (Or.inl ⟨by rfl, fun w hw => by go_simp; try (with_reducible rfl)⟩) ?_
        simp only [Act.put, List.setIfInBounds_toArray, List.set_cons_zero, List.set_cons_succ]
        refine tk10 (v := .bool true) (by kernel_rfl) (by kernel_rfl) (by kernel_rfl) (fun _ _ _ h => h) X.out (Or.inl ⟨by rfl, fun w hw => by go_simp; try (with_reducible rfl)⟩) ?_
        simp only [Act.put, List.setIfInBounds_toArray, List.set_cons_zero, List.set_cons_succ]
        refine tk11 (v := .bool true) (by kernel_rfl) (by kernel_rfl) (by kernel_rfl) (fun _ _ _ h => h) X.out (Or.inl ⟨by rfl, fun w hw => by go_simp; try (with_reducible rfl)⟩) ?_
        simp only [Act.put, List.setIfInBounds_toArray, List.set_cons_zero, List.set_cons_succ]
        refine wpAnyH_done (by kernel_rfl) ?_ _
        go_wp2
        go_ret
        exact ⟨rfl, X.out.below⟩
  · have hl2 : (40 : Int) < (xs.length : Int) := by omega
    go_enter Tryd.func4, Tryd.ntmps4
    go_wp2_with fail
    refine (lives10_any HT.out).mono ?_
    rintro e w2 ⟨rfl, hb⟩
    have B := hide hb
    clear hb
    go_wp2_with fail
    refine (lives10_any (HT.out.below B.out)).mono ?_
    rintro e w3 ⟨rfl, hb⟩
    replace B := hide (bOn B.out hb)
    clear hb
    go_wp2
    go_ret
    exact ⟨rfl, B.out⟩
end Go.Proofs.YtlkmebimgpigjaaDoor
