/- The walk of sponsionlaw06.DomainEmpty over this translation. -/
import Derived.Test.YtgjckinihmbdeaaDoorRef6Empties
import Derived.Test.YtgjckinihmbdeaaDoorDomLives
import Derived.Test.YtgjckinihmbdeaaDoorHashEq
import Derived.OpenShut
namespace Go.Proofs.YtgjckinihmbdeaaDoor
open Go.RowKit Go.Lib
attribute [local go_sem] setCell_drewN alloc_drewN eqHash sameH_self

theorem lev_is2 (x : Int) : ∃ (k : Nat) (m : Int), k ≤ 32 ∧ lev x = k ∧ (if 32 < x then 32 else x) = m ∧ (if 0 < m then m else 0) = (k : Int) := by
  unfold lev
  by_cases h : x < 0
  · exact ⟨0, x, by omega, by rw [if_pos h], by rw [if_neg (by omega)], by rw [if_neg (by omega)]; rfl⟩
  · by_cases h2 : 32 < x
    · exact ⟨32, 32, by omega, by rw [if_neg h, if_pos h2], by rw [if_pos h2], by simp⟩
    · refine ⟨x.toNat, x, by omega, by rw [if_neg h, if_neg h2], by rw [if_neg h2], ?_⟩
      by_cases h3 : 0 < x
      · rw [if_pos h3]; omega
      · rw [if_neg h3]; omega
/-- What stands while sums are held against each other: all levels in block g. -/
structure XS (w0 : World) (g k : Nat) (G Fk F0 : Nat → Int) (w : World) : Prop where
  row : BRow w g 1056 G
  atk : w.rangeAt g (k * 32) (rowV 32 Fk)
  at0 : w.rangeAt g 0 (rowV 32 F0)
  below : Below w0.heap.size w0 w
theorem XS.after {w0 w w' : World} {g k : Nat} {G Fk F0 : Nat → Int} (h : XS w0 g k G Fk F0 w) (hb : Below w.heap.size w w') : XS w0 g k G Fk F0 w' :=
  ⟨h.row.after hb rfl, fun j v hv => (hb.cell (p := ⟨g, k * 32 + j, none⟩) h.row.lt).trans (h.atk j v hv), fun j v hv => (hb.cell (p := ⟨g, 0 + j, none⟩) h.row.lt).trans (h.at0 j v hv), bOn h.below hb⟩
theorem zero1056' : (Array.replicate 1056 (Value.int .u8 0)).size = 1056 := by simp
set_option maxRecDepth 100000 in
set_option maxHeartbeats 8000000 in
theorem domainEmpty_walk (x : Int) (w : World) (hw : (Lit.int .i64 x).wf = true) (ht : Tab w 1) (ht2 : Tab w 0) :
    Calls Tryd.prog 5 #[.int .i64 x] w fun e w' => e = .returned (.bool true) ∧ Below w.heap.size w w' := by
  have HT := hide ht; have HT2 := hide ht2
  clear ht ht2
  have hx := Go.bounds_i64 hw
  clear hw
  obtain ⟨k, m, hk32, hk, hm1, hm2⟩ := lev_is2 x
  have hz := fun w => zero1056 w
  go_enter Tryd.func5, Tryd.ntmps5
  go_wp2_with fail
  refine (lives6_any w).mono ?_
  rintro e w1 ⟨rfl, hb1⟩
  have B := hide hb1
  clear hb1
  go_wp2_with fail
  refine (empties_any (HT2.out.below B.out)).mono ?_
  rintro e w2 ⟨rfl, hb⟩
  replace B := hide (bOn B.out hb)
  clear hb
  obtain ⟨G, hG⟩ : ∃ G, empF 32 = G := ⟨_, rfl⟩
  rw [hG]
  have HG := hide hG
  clear hG
  have R := hide (BRow.new w2 1056 38 (g := w2.heap.size) rfl)
  have HLO : Hid (w.heap.size ≤ w2.heap.size) := B.out.size
  replace B := hide (bAl (o := .cells (Array.replicate 1056 (.int .u8 0)) 38) B.out)
  have HIA : Hid ((Tryd.prog.info? 38).map (·.size) = some (rowV 1056 G).toArray.size) := by show _ = _; rw [List.size_toArray, rowV_length]; kernel_rfl
  go_wp2_with (refine wpList_store_stop rfl 38 _ _ rfl w2.heap.size 0 (rowV 1056 G) rfl rfl (R.out.thereA G) HIA.out (rowV_oneA _ _) ?_)
  intro w3 hw3
  have R3 : Hid (BRow w3 w2.heap.size 1056 G) := by
    show BRow _ _ _ _
    rw [hw3.out]; exact R.out.stored G
  have B3 : Hid (Below w.heap.size w w3) := by
    show Below _ _ _
    rw [hw3.out]; exact setCells_below B.out HLO.out _ _
  clear hw3 R B HLO HIA hz
  generalize w2.heap.size = g at *
  obtain ⟨Fk, hFk⟩ : ∃ Fk, demp k = Fk := ⟨_, rfl⟩
  obtain ⟨F0, hF0⟩ : ∃ F0, demp 0 = F0 := ⟨_, rfl⟩
  have X : Hid (XS w g k G Fk F0 w3) := by
    refine ⟨R3.out, R3.out.part (k * 32) 32 Fk (by omega) (fun j hj => ?_), R3.out.part 0 32 F0 (by omega) (fun j hj => ?_), B3.out⟩
    · rw [← HG.out, ← hFk]
      unfold empF
      rw [if_pos (by omega), show (k * 32 + j) / 32 = k by omega, show (k * 32 + j) % 32 = j by omega]
    · rw [← HG.out, ← hF0]
      unfold empF
      rw [if_pos (by omega), show (0 + j) / 32 = 0 by omega, show (0 + j) % 32 = j by omega]
  have HFk : Hid (demp (lev x) = Fk) := by rw [hk]; exact hFk
  have HF0 : Hid (dsha 2 (lsOf []) = F0) := hF0
  have HF0' : Hid (sha (dtext 2 (lsOf [])) = F0) := hF0
  clear hk hFk hF0 R3 B3 HG
  have hn1 : ¬ (33 : Int) ≤ (k : Int) := by omega
  go_wp2_with fail
  replace X := hide (X.out.after (bMe w3).drew)
  refine wp_region_held_drew (S := XS w g k G Fk F0) (by kernel_rfl) X.out (fun _ => ?_)
  refine tk0 (v := .int .i64 x) (by kernel_rfl) (by kernel_rfl) (by kernel_rfl) (fun _ _ _ h => h) X.out (Or.inl ⟨by rfl, fun w hw => by go_simp; try (with_reducible rfl)⟩) ?_
  simp only [Act.put, List.setIfInBounds_toArray, List.set_cons_zero, List.set_cons_succ]
  refine tk2 (v := .int .i64 x) (by kernel_rfl) (by kernel_rfl) (by kernel_rfl) (fun _ _ _ h => h) X.out (Or.inl ⟨by rfl, fun w hw => by go_simp; try (with_reducible rfl)⟩) ?_
  simp only [Act.put, List.setIfInBounds_toArray, List.set_cons_zero, List.set_cons_succ]
  refine tk3 (v := .int .i64 m) (by kernel_rfl) (by kernel_rfl) (by kernel_rfl) (fun _ _ _ h => h) X.out (Or.inl ⟨by rfl, fun w hw => by go_simp; try (with_reducible rfl)⟩) ?_
  simp only [Act.put, List.setIfInBounds_toArray, List.set_cons_zero, List.set_cons_succ]
  refine tk4 (v := .int .i64 (k : Int)) (by kernel_rfl) (by kernel_rfl) (by kernel_rfl) (fun _ _ _ h => h) X.out (Or.inl ⟨by rfl, fun w hw => by go_simp; try (with_reducible rfl)⟩) ?_
  simp only [Act.put, List.setIfInBounds_toArray, List.set_cons_zero, List.set_cons_succ]
  refine tk5 (v := .pointer (some ⟨g, k * 32, none⟩)) (by kernel_rfl) (by kernel_rfl) (by kernel_rfl) (fun _ _ _ h => h) X.out (Or.inl ⟨by rfl, fun w hw => by go_simp; try (with_reducible rfl)⟩) ?_
  simp only [Act.put, List.setIfInBounds_toArray, List.set_cons_zero, List.set_cons_succ]
  refine tk6 (by kernel_rfl) (by kernel_rfl) (by kernel_rfl) (fun _ _ _ h => h) X.out (yieldsIf_load_mid (by rfl) _ _ rfl g (k * 32) rfl (rowV 32 Fk) _ (fun _ hw => hw.atk) Tryd.underlying31 rfl (info_hash32 _)) ?_
  simp only [Act.put, List.setIfInBounds_toArray, List.set_cons_zero, List.set_cons_succ]
  refine wpAnyH_ready (rs := [1]) (by kernel_rfl) (by simp) ?_
  refine rd1 (fun K hK => ?_) AllReadyH.nil
  go_simp
  refine (empty_any x (HT.out.below X.out.below)).mono ?_
  rintro e w' ⟨rfl, hb⟩
  simp only []
  replace X := hide (X.out.after hb)
  clear hb
  rw [HFk.out]
  refine hK.out _ _ X.out (fun _ => ?_)
  clear hK K
  refine tk7 (v := .bool true) (by kernel_rfl) (by kernel_rfl) (by kernel_rfl) (fun _ _ _ h => h) X.out (Or.inl ⟨by rfl, fun w hw => by go_simp; try (with_reducible rfl)⟩) ?_
  simp only [Act.put, List.setIfInBounds_toArray, List.set_cons_zero, List.set_cons_succ]
  refine tk8 (v := .bool true) (by kernel_rfl) (by kernel_rfl) (by kernel_rfl) (fun _ _ _ h => h) X.out (Or.inl ⟨by rfl, fun w hw => by go_simp; try (with_reducible rfl)⟩) ?_
  simp only [Act.put, List.setIfInBounds_toArray, List.set_cons_zero, List.set_cons_succ]
  refine tk10 (v := .pointer (some ⟨g, 0, none⟩)) (by kernel_rfl) (by kernel_rfl) (by kernel_rfl) (fun _ _ _ h => h) X.out (Or.inl ⟨by rfl, fun w hw => by go_simp; try (with_reducible rfl)⟩) ?_
  simp only [Act.put, List.setIfInBounds_toArray, List.set_cons_zero, List.set_cons_succ]
  refine tk11 (by kernel_rfl) (by kernel_rfl) (by kernel_rfl) (fun _ _ _ h => h) X.out (yieldsIf_load_mid (by rfl) _ _ rfl g (0) rfl (rowV 32 F0) _ (fun _ hw => hw.at0) Tryd.underlying31 rfl (info_hash32 _)) ?_
  simp only [Act.put, List.setIfInBounds_toArray, List.set_cons_zero, List.set_cons_succ]
  refine wpAnyH_ready (rs := [9]) (by kernel_rfl) (by simp) ?_
  refine rd9 (fun K hK => ?_) AllReadyH.nil
  go_simp
  refine (of_any 2 (by omega) (by omega) none 0 [] (Handed.none _) (by simp [dtext, lsOf, ptexts, be_length]) (HT.out.below X.out.below)).mono ?_
  rintro e w' ⟨rfl, hb⟩
  simp only []
  replace X := hide (X.out.after hb)
  clear hb
  rw [HF0.out]
  refine hK.out _ _ X.out (fun _ => ?_)
  clear hK K
  refine tk12 (v := .bool true) (by kernel_rfl) (by kernel_rfl) (by kernel_rfl) (fun _ _ _ h => h) X.out (Or.inl ⟨by rfl, fun w hw => by go_simp; try (with_reducible rfl)⟩) ?_
  simp only [Act.put, List.setIfInBounds_toArray, List.set_cons_zero, List.set_cons_succ]
  refine tk13 (v := .bool true) (by kernel_rfl) (by kernel_rfl) (by kernel_rfl) (fun _ _ _ h => h) X.out (Or.inl ⟨by rfl, fun w hw => by go_simp; try (with_reducible rfl)⟩) ?_
  simp only [Act.put, List.setIfInBounds_toArray, List.set_cons_zero, List.set_cons_succ]
  refine tk14 (v := .bool true) (by kernel_rfl) (by kernel_rfl) (by kernel_rfl) (fun _ _ _ h => h) X.out (Or.inl ⟨by rfl, fun w hw => by go_simp; try (with_reducible rfl)⟩) ?_
  simp only [Act.put, List.setIfInBounds_toArray, List.set_cons_zero, List.set_cons_succ]
  refine tk17 (v := .pointer (some ⟨g, 0, none⟩)) (by kernel_rfl) (by kernel_rfl) (by kernel_rfl) (fun _ _ _ h => h) X.out (Or.inl ⟨by rfl, fun w hw => by go_simp; try (with_reducible rfl)⟩) ?_
  simp only [Act.put, List.setIfInBounds_toArray, List.set_cons_zero, List.set_cons_succ]
  refine tk18 (by kernel_rfl) (by kernel_rfl) (by kernel_rfl) (fun _ _ _ h => h) X.out (yieldsIf_load_mid (by rfl) _ _ rfl g (0) rfl (rowV 32 F0) _ (fun _ hw => hw.at0) Tryd.underlying31 rfl (info_hash32 _)) ?_
  simp only [Act.put, List.setIfInBounds_toArray, List.set_cons_zero, List.set_cons_succ]
  refine wpAnyH_ready (rs := [15]) (by kernel_rfl) (by simp) ?_
  refine rd15 (fun K hK => ?_) AllReadyH.nil
  go_simp
  refine (text_any 2 (by omega) (by omega) none 0 [] (.inl rfl) (fun q hq => by simp at hq) (by simp [dtext, lsOf, ptexts, be_length]) (by simp)).mono ?_
  rintro e w' ⟨v, rfl, hv, hb⟩
  simp only []
  replace X := hide (X.out.after hb)
  obtain ⟨bo, bc, rfl, k1, k2, k3⟩ := hv.cell
  have AT := hide hv.at
  clear hb hv k1 k2 k3
  refine hK.out _ _ X.out (fun _ => ?_)
  clear hK K
  refine wpAnyH_ready (rs := [16]) (by kernel_rfl) (by simp) ?_
  refine rd16 (fun K hK => ?_) AllReadyH.nil
  go_simp
  refine (refsum_any bo bc (dtext 2 (lsOf [])) AT.out.1 AT.out.2 (by simp [dtext, lsOf, ptexts, be_length]) (dtext_byt (fun l hl => by simp [lsOf] at hl)) (HT2.out.below X.out.below)).mono ?_
  rintro e w' ⟨rfl, hb⟩
  simp only []
  replace X := hide (X.out.after hb)
  clear hb
  rw [HF0'.out]
  refine hK.out _ _ X.out (fun _ => ?_)
  clear hK K
  refine tk19 (v := .bool true) (by kernel_rfl) (by kernel_rfl) (by kernel_rfl) (fun _ _ _ h => h) X.out (Or.inl ⟨by rfl, fun w hw => by go_simp; try (with_reducible rfl)⟩) ?_
  simp only [Act.put, List.setIfInBounds_toArray, List.set_cons_zero, List.set_cons_succ]
  refine tk20 (v := .bool true) (by kernel_rfl) (by kernel_rfl) (by kernel_rfl) (fun _ _ _ h => h) X.out (Or.inl ⟨by rfl, fun w hw => by go_simp; try (with_reducible rfl)⟩) ?_
  simp only [Act.put, List.setIfInBounds_toArray, List.set_cons_zero, List.set_cons_succ]
  refine tk21 (v := .bool true) (by kernel_rfl) (by kernel_rfl) (by kernel_rfl) (fun _ _ _ h => h) X.out (Or.inl ⟨by rfl, fun w hw => by go_simp; try (with_reducible rfl)⟩) ?_
  simp only [Act.put, List.setIfInBounds_toArray, List.set_cons_zero, List.set_cons_succ]
  refine wpAnyH_done (by kernel_rfl) ?_ _
  go_wp2
  go_ret
  exact ⟨rfl, X.out.below⟩
end Go.Proofs.YtgjckinihmbdeaaDoor
