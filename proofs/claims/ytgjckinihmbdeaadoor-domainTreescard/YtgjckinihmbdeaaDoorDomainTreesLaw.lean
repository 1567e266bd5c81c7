/- The walk of sponsionlaw06.DomainTrees over this translation. -/
import Derived.Test.YtgjckinihmbdeaaDoorRef6Node
import Derived.Test.YtgjckinihmbdeaaDoorDomLives
import Derived.Test.YtgjckinihmbdeaaDoorHashEq
import Derived.Test.YtgjckinihmbdeaaDoorHand
namespace Go.Proofs.YtgjckinihmbdeaaDoor
open Go.RowKit Go.Lib
attribute [local go_sem] setCell_drewN alloc_drewN eqHash sameH_self

/-- What stands while sums are held against each other: two sums in boxes, and bytes. -/
structure TS (w0 : World) (ao : Option Addr) (l : List Int) (f g : Nat → Int) (w : World) : Prop where
  lf : BRow w w0.heap.size 32 f
  rt : BRow w (w0.heap.size + 1) 32 g
  dat : At w ao l
  below : Below w0.heap.size w0 w
theorem TS.after {w0 w w' : World} {ao : Option Addr} {l : List Int} {f g : Nat → Int} (h : TS w0 ao l f g w) (hb : Below w.heap.size w w') : TS w0 ao l f g w' :=
  ⟨h.lf.after hb rfl, h.rt.after hb rfl, h.dat.below hb, bOn h.below hb⟩
set_option maxRecDepth 100000 in
set_option maxHeartbeats 8000000 in
theorem domainTrees_walk (ao : Option Addr) (cap : Nat) (l : List Int) (f g : Nat → Int) (w : World) (hb : l.length ≤ cap ∧ cap ≤ maxLen ∧ (ao = none → cap = 0) ∧ At w ao l ∧ Byt l) (hf : ∀ j, 0 ≤ f j ∧ f j < 256) (hg : ∀ j, 0 ≤ g j ∧ g j < 256) (ht : Tab w 1) (ht2 : Tab w 0) :
    Calls Tryd.prog 4 #[.slice ao l.length cap, .agg (rowV 32 f).toArray, .agg (rowV 32 g).toArray] w fun e w' => e = .returned (.bool true) ∧ Below w.heap.size w w' := by
  obtain ⟨h1, h2, h3, h4, h5⟩ := hb
  have HC : Hid (l.length ≤ cap ∧ cap ≤ maxLen) := ⟨h1, h2⟩
  unfold maxLen at h2
  have hli : (l.length : Int) ≤ 9223372036854775807 := by omega
  have HT := hide ht; have HT2 := hide ht2; have HN := hide h3; have HBY := hide h5; have HF := hide hf; have HG := hide hg
  have X : Hid (TS w ao l f g ((w.alloc (.cells (rowV 32 f).toArray 31)).alloc (.cells (rowV 32 g).toArray 31))) :=
    ⟨(hash_new w f 31 rfl).past _, hash_new (w.alloc (.cells (rowV 32 f).toArray 31)) g 31 (by simp), h4.below (bAl (bAl (bMe w))), bAl (bAl (bMe w))⟩
  clear ht ht2 h3 h4 h5 hf hg h1 h2
  by_cases hlen : l.length ≤ 200
  · have hl2 : ¬ (200 : Int) < (l.length : Int) := by omega
    go_enter Tryd.func4, Tryd.ntmps4
    go_wp2_with fail
    generalize (w.alloc (.cells (rowV 32 f).toArray 31)).alloc (.cells (rowV 32 g).toArray 31) = w1 at *
    refine (lives6_any w1).mono ?_
    rintro e w2 ⟨rfl, hb⟩
    replace X := hide (X.out.after hb)
    clear hb
    go_wp2_with fail
    replace X := hide (X.out.after (bMe w2).drew)
    obtain ⟨FL, hFL⟩ : ∃ F, dsha 0 [l] = F := ⟨_, rfl⟩
    obtain ⟨FN, hFN⟩ : ∃ F, dnode f g = F := ⟨_, rfl⟩
    have HFL := hide hFL; have HFN := hide hFN
    clear hFL hFN
    refine wp_region_held_drew (S := TS w ao l f g) (by kernel_rfl) X.out (fun _ => ?_)
    generalize w2.drew = w3 at *
    refine tk0 (v := .slice ao l.length cap) (by kernel_rfl) (by kernel_rfl) (by kernel_rfl) (fun _ _ _ h => h) X.out (Or.inl ⟨by rfl, fun w hw => by go_simp; try (with_reducible rfl)⟩) ?_
    simp only [Act.put, List.setIfInBounds_toArray, List.set_cons_zero, List.set_cons_succ]
    refine tk2 (v := .slice ao l.length cap) (by kernel_rfl) (by kernel_rfl) (by kernel_rfl) (fun _ _ _ h => h) X.out (Or.inl ⟨by rfl, fun w hw => by go_simp; try (with_reducible rfl)⟩) ?_
    simp only [Act.put, List.setIfInBounds_toArray, List.set_cons_zero, List.set_cons_succ]
    refine tk3 (v := .string (strOfNums l)) (by kernel_rfl) (by kernel_rfl) (by kernel_rfl) (fun _ _ _ h => h) X.out (Or.inl ⟨by rfl, fun w hw => by have hcv := hw.dat.str cap; go_simp; try (with_reducible rfl)⟩) ?_
    simp only [Act.put, List.setIfInBounds_toArray, List.set_cons_zero, List.set_cons_succ]
    refine wpAnyH_ready (rs := [1, 4]) (by kernel_rfl) (by simp) ?_
    refine rd1 (fun K hK => ?_) (rd4 (fun K hK => ?_) AllReadyH.nil)
    · go_simp
      refine (leaf_any ao cap l ⟨X.out.dat, HC.out.1, HC.out.2, HBY.out⟩ HN.out (by omega) (HT.out.below X.out.below)).mono ?_
      rintro e w' ⟨rfl, hb⟩
      simp only []
      replace X := hide (X.out.after hb)
      clear hb
      rw [HFL.out]
      refine hK.out _ _ X.out (fun _ => ?_)
      clear hK K
      refine wpAnyH_ready (rs := [4]) (by kernel_rfl) (by simp) ?_
      refine rd4 (fun K hK => ?_) AllReadyH.nil
      go_simp
      have ST := hide (one_str w' l 9 rfl)
      replace X := hide (X.out.after (bAl (o := .cells #[.string (strOfNums l)] 9) (bMe w')))
      generalize w'.alloc (.cells #[.string (strOfNums l)] 9) = wS at *
      generalize w'.heap.size = gS at *
      refine hK.out _ _ X.out (fun _ => ?_)
      clear hK K
      refine wpAnyH_ready (rs := [5]) (by kernel_rfl) (by simp) ?_
      refine rd5 (fun K hK => ?_) AllReadyH.nil
      go_simp
      refine (refof_any 0 (by omega) (by omega) (some ⟨gS, 0, none⟩) 1 [l] ST.out (fun m hm => by simp at hm; subst hm; exact HBY.out) (by simp [dtext, ptexts, ptext, be_length]; omega) (by simp) (HT2.out.below X.out.below)).mono ?_
      rintro e w' ⟨rfl, hb⟩
      simp only []
      replace X := hide (X.out.after hb)
      clear hb ST
      rw [HFL.out]
      refine hK.out _ _ X.out (fun _ => ?_)
      clear hK K
      refine tk6 (v := .bool true) (by kernel_rfl) (by kernel_rfl) (by kernel_rfl) (fun _ _ _ h => h) X.out (Or.inl ⟨by rfl, fun w hw => by go_simp; try (with_reducible rfl)⟩) ?_
      simp only [Act.put, List.setIfInBounds_toArray, List.set_cons_zero, List.set_cons_succ]
      refine tk7 (v := .bool true) (by kernel_rfl) (by kernel_rfl) (by kernel_rfl) (fun _ _ _ h => h) X.out (Or.inl ⟨by rfl, fun w hw => by go_simp; try (with_reducible rfl)⟩) ?_
      simp only [Act.put, List.setIfInBounds_toArray, List.set_cons_zero, List.set_cons_succ]
      refine tk8 (by kernel_rfl) (by kernel_rfl) (by kernel_rfl) (fun _ _ _ h => h) X.out (yieldsIf_load_mid (by rfl) _ _ rfl w.heap.size (0) rfl (rowV 32 f) _ (fun _ hw => hw.lf.range) Tryd.underlying31 rfl (info_hash32 _)) ?_
      simp only [Act.put, List.setIfInBounds_toArray, List.set_cons_zero, List.set_cons_succ]
      refine tk9 (by kernel_rfl) (by kernel_rfl) (by kernel_rfl) (fun _ _ _ h => h) X.out (yieldsIf_load_mid (by rfl) _ _ rfl (w.heap.size + 1) (0) rfl (rowV 32 g) _ (fun _ hw => hw.rt.range) Tryd.underlying31 rfl (info_hash32 _)) ?_
      simp only [Act.put, List.setIfInBounds_toArray, List.set_cons_zero, List.set_cons_succ]
      refine tk11 (by kernel_rfl) (by kernel_rfl) (by kernel_rfl) (fun _ _ _ h => h) X.out (yieldsIf_load_mid (by rfl) _ _ rfl w.heap.size (0) rfl (rowV 32 f) _ (fun _ hw => hw.lf.range) Tryd.underlying31 rfl (info_hash32 _)) ?_
      simp only [Act.put, List.setIfInBounds_toArray, List.set_cons_zero, List.set_cons_succ]
      refine tk12 (by kernel_rfl) (by kernel_rfl) (by kernel_rfl) (fun _ _ _ h => h) X.out (yieldsIf_load_mid (by rfl) _ _ rfl (w.heap.size + 1) (0) rfl (rowV 32 g) _ (fun _ hw => hw.rt.range) Tryd.underlying31 rfl (info_hash32 _)) ?_
      simp only [Act.put, List.setIfInBounds_toArray, List.set_cons_zero, List.set_cons_succ]
      refine wpAnyH_ready (rs := [10]) (by kernel_rfl) (by simp) ?_
      refine rd10 (fun K hK => ?_) AllReadyH.nil
      go_simp
      refine (node_any f g HF.out HG.out (HT.out.below X.out.below)).mono ?_
      rintro e w' ⟨rfl, hb⟩
      simp only []
      replace X := hide (X.out.after hb)
      clear hb
      rw [HFN.out]
      refine hK.out _ _ X.out (fun _ => ?_)
      clear hK K
      refine wpAnyH_ready (rs := [13]) (by kernel_rfl) (by simp) ?_
      refine rd13 (fun K hK => ?_) AllReadyH.nil
      go_simp
      refine (refnode_any f g HF.out HG.out (HT2.out.below X.out.below)).mono ?_
      rintro e w' ⟨rfl, hb⟩
      simp only []
      replace X := hide (X.out.after hb)
      clear hb
      rw [HFN.out]
      refine hK.out _ _ X.out (fun _ => ?_)
      clear hK K
      refine tk14 (v := .bool true) (by kernel_rfl) (by kernel_rfl) (by kernel_rfl) (fun _ _ _ h => h) X.out (Or.inl ⟨by rfl, fun w hw => by go_simp; try (with_reducible rfl)⟩) ?_
      simp only [Act.put, List.setIfInBounds_toArray, List.set_cons_zero, List.set_cons_succ]
      refine tk15 (v := .bool true) (by kernel_rfl) (by kernel_rfl) (by kernel_rfl) (fun _ _ _ h => h) X.out (Or.inl ⟨by rfl, fun w hw => by go_simp; try (with_reducible rfl)⟩) ?_
      simp only [Act.put, List.setIfInBounds_toArray, List.set_cons_zero, List.set_cons_succ]
      refine tk16 (v := .bool true) (by kernel_rfl) (by kernel_rfl) (by kernel_rfl) (fun _ _ _ h => h) X.out (Or.inl ⟨by rfl, fun w hw => by go_simp; try (with_reducible rfl)⟩) ?_
      simp only [Act.put, List.setIfInBounds_toArray, List.set_cons_zero, List.set_cons_succ]
      refine wpAnyH_done (by kernel_rfl) ?_ _
      go_wp2
      go_ret
      exact ⟨rfl, X.out.below⟩
    · go_simp
      have ST := hide (one_str w3 l 9 rfl)
      replace X := hide (X.out.after (bAl (o := .cells #[.string (strOfNums l)] 9) (bMe w3)))
      generalize w3.alloc (.cells #[.string (strOfNums l)] 9) = wS at *
      generalize w3.heap.size = gS at *
      refine hK.out _ _ X.out (fun _ => ?_)
      clear hK K
      refine wpAnyH_ready (rs := [1]) (by kernel_rfl) (by simp) ?_
      refine rd1 (fun K hK => ?_) AllReadyH.nil
      go_simp
      refine (leaf_any ao cap l ⟨X.out.dat, HC.out.1, HC.out.2, HBY.out⟩ HN.out (by omega) (HT.out.below X.out.below)).mono ?_
      rintro e w' ⟨rfl, hb⟩
      simp only []
      replace X := hide (X.out.after hb)
      replace ST := hide (ST.out.below hb)
      clear hb
      rw [HFL.out]
      refine hK.out _ _ X.out (fun _ => ?_)
      clear hK K
      refine wpAnyH_ready (rs := [5]) (by kernel_rfl) (by simp) ?_
      refine rd5 (fun K hK => ?_) AllReadyH.nil
      go_simp
      refine (refof_any 0 (by omega) (by omega) (some ⟨gS, 0, none⟩) 1 [l] ST.out (fun m hm => by simp at hm; subst hm; exact HBY.out) (by simp [dtext, ptexts, ptext, be_length]; omega) (by simp) (HT2.out.below X.out.below)).mono ?_
      rintro e w' ⟨rfl, hb⟩
      simp only []
      replace X := hide (X.out.after hb)
      clear hb ST
      rw [HFL.out]
      refine hK.out _ _ X.out (fun _ => ?_)
      clear hK K
      refine tk6 (v := .bool true) (by kernel_rfl) (by kernel_rfl) (by kernel_rfl) (fun _ _ _ h => h) X.out (Or.inl ⟨by rfl, fun w hw => by go_simp; try (with_reducible rfl)⟩) ?_
      simp only [Act.put, List.setIfInBounds_toArray, List.set_cons_zero, List.set_cons_succ]
      refine tk7 (v := .bool true) (by kernel_rfl) (by kernel_rfl) (by kernel_rfl) (fun _ _ _ h => h) X.out (Or.inl ⟨by rfl, fun w hw => by go_simp; try (with_reducible rfl)⟩) ?_
      simp only [Act.put, List.setIfInBounds_toArray, List.set_cons_zero, List.set_cons_succ]
      refine tk8 (by kernel_rfl) (by kernel_rfl) (by kernel_rfl) (fun _ _ _ h => h) X.out (yieldsIf_load_mid (by rfl) _ _ rfl w.heap.size (0) rfl (rowV 32 f) _ (fun _ hw => hw.lf.range) Tryd.underlying31 rfl (info_hash32 _)) ?_
      simp only [Act.put, List.setIfInBounds_toArray, List.set_cons_zero, List.set_cons_succ]
      refine tk9 (by kernel_rfl) (by kernel_rfl) (by kernel_rfl) (fun _ _ _ h => h) X.out (yieldsIf_load_mid (by rfl) _ _ rfl (w.heap.size + 1) (0) rfl (rowV 32 g) _ (fun _ hw => hw.rt.range) Tryd.underlying31 rfl (info_hash32 _)) ?_
      simp only [Act.put, List.setIfInBounds_toArray, List.set_cons_zero, List.set_cons_succ]
      refine tk11 (by kernel_rfl) (by kernel_rfl) (by kernel_rfl) (fun _ _ _ h => h) X.out (yieldsIf_load_mid (by rfl) _ _ rfl w.heap.size (0) rfl (rowV 32 f) _ (fun _ hw => hw.lf.range) Tryd.underlying31 rfl (info_hash32 _)) ?_
      simp only [Act.put, List.setIfInBounds_toArray, List.set_cons_zero, List.set_cons_succ]
      refine tk12 (by kernel_rfl) (by kernel_rfl) (by kernel_rfl) (fun _ _ _ h => h) X.out (yieldsIf_load_mid (by rfl) _ _ rfl (w.heap.size + 1) (0) rfl (rowV 32 g) _ (fun _ hw => hw.rt.range) Tryd.underlying31 rfl (info_hash32 _)) ?_
      simp only [Act.put, List.setIfInBounds_toArray, List.set_cons_zero, List.set_cons_succ]
      refine wpAnyH_ready (rs := [10]) (by kernel_rfl) (by simp) ?_
      refine rd10 (fun K hK => ?_) AllReadyH.nil
      go_simp
      refine (node_any f g HF.out HG.out (HT.out.below X.out.below)).mono ?_
      rintro e w' ⟨rfl, hb⟩
      simp only []
      replace X := hide (X.out.after hb)
      clear hb
      rw [HFN.out]
      refine hK.out _ _ X.out (fun _ => ?_)
      clear hK K
      refine wpAnyH_ready (rs := [13]) (by kernel_rfl) (by simp) ?_
      refine rd13 (fun K hK => ?_) AllReadyH.nil
      go_simp
      refine (refnode_any f g HF.out HG.out (HT2.out.below X.out.below)).mono ?_
      rintro e w' ⟨rfl, hb⟩
      simp only []
      replace X := hide (X.out.after hb)
      clear hb
      rw [HFN.out]
      refine hK.out _ _ X.out (fun _ => ?_)
      clear hK K
      refine tk14 (v := .bool true) (by kernel_rfl) (by kernel_rfl) (by kernel_rfl) (fun _ _ _ h => h) X.out (Or.inl ⟨by rfl, fun w hw => by go_simp; try (with_reducible rfl)⟩) ?_
      simp only [Act.put, List.setIfInBounds_toArray, List.set_cons_zero, List.set_cons_succ]
      refine tk15 (v := .bool true) (by kernel_rfl) (by kernel_rfl) (by kernel_rfl) (fun _ _ _ h => h) X.out (Or.inl ⟨by rfl, fun w hw => by go_simp; try (with_reducible rfl)⟩) ?_
      simp only [Act.put, List.setIfInBounds_toArray, List.set_cons_zero, List.set_cons_succ]
      refine tk16 (v := .bool true) (by kernel_rfl) (by kernel_rfl) (by kernel_rfl) (fun _ _ _ h => h) X.out (Or.inl ⟨by rfl, fun w hw => by go_simp; try (with_reducible rfl)⟩) ?_
      simp only [Act.put, List.setIfInBounds_toArray, List.set_cons_zero, List.set_cons_succ]
      refine wpAnyH_done (by kernel_rfl) ?_ _
      go_wp2
      go_ret
      exact ⟨rfl, X.out.below⟩
  · have hl2 : (200 : Int) < (l.length : Int) := by omega
    go_enter Tryd.func4, Tryd.ntmps4
    go_wp2_with fail
    generalize (w.alloc (.cells (rowV 32 f).toArray 31)).alloc (.cells (rowV 32 g).toArray 31) = w1 at *
    refine (lives6_any w1).mono ?_
    rintro e w2 ⟨rfl, hb⟩
    replace X := hide (X.out.after hb)
    clear hb
    go_wp2_with fail
    refine (lives6_any w2).mono ?_
    rintro e w3 ⟨rfl, hb⟩
    replace X := hide (X.out.after hb)
    clear hb
    go_wp2
    go_ret
    exact ⟨rfl, X.out.below⟩
end Go.Proofs.YtgjckinihmbdeaaDoor
