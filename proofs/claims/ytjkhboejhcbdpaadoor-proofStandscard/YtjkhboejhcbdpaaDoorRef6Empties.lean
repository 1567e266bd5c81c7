/- The contract of sponsionref06.Empties over this translation. -/
import Derived.Test.YtjkhboejhcbdpaaDoorDomEmpty
import Derived.Test.YtjkhboejhcbdpaaDoorDomEmpty
import Derived.Test.YtjkhboejhcbdpaaDoorHand
namespace Go.Proofs.YtjkhboejhcbdpaaDoor
open Go.RowKit Go.Lib
attribute [local go_sem] setCell_drewN alloc_drewN

/-- The sums of levels, as far as they are written. -/
def empF (k j : Nat) : Int := if j < 32 * (k + 1) then demp (j / 32) (j % 32) else 0
theorem zero1056 (w : World) : (zeroValue 64).run Tryd.prog w = .ok (.agg (Array.replicate 1056 (.int .u8 0))) w := by kernel_rfl
/-- What stands while levels are written. -/
structure EE (w0 w : World) (f : Nat → Int) : Prop where
  res : BRow w w0.heap.size 1056 (fun _ => 0)
  out : BRow w (w0.heap.size + 1) 1056 f
  below : Below w0.heap.size w0 w
theorem EE.after {w0 w w' : World} {f : Nat → Int} (h : EE w0 w f) (hb : Below w.heap.size w w') : EE w0 w' f := ⟨h.res.after hb rfl, h.out.after hb rfl, bOn h.below hb⟩
theorem BRow.part {w : World} {g n : Nat} {f : Nat → Int} (h : BRow w g n f) (o m : Nat) (F : Nat → Int) (hn : o + m ≤ n) (hf : ∀ j, j < m → f (o + j) = F j) : w.rangeAt g o (rowV m F) := by
  intro j v hv
  have hj : j < m := by have := (List.getElem?_eq_some_iff.1 hv).1; rwa [rowV_length] at this
  rw [rowV_get hj] at hv
  injection hv with hv
  subst hv
  rw [h.cell (o + j) (by omega), hf j hj]
theorem BRow.putAt {w : World} {g n : Nat} {f : Nat → Int} (h : BRow w g n f) (o m : Nat) (F f' : Nat → Int) (hn : o + m ≤ n) (hf : ∀ j, j < n → f' j = if o ≤ j ∧ j < o + m then F (j - o) else f j) : BRow (w.setCells g o (rowV m F)) g n f' := by
  have ht : w.there g o (rowV m F).length := by
    intro j hj
    rw [rowV_length] at hj
    exact ⟨by rw [h.cell (o + j) (by omega)]; rfl, h.fr _⟩
  refine ⟨by rw [setCells_size]; exact h.lt, fun j hj => ?_, fun q => by rw [World.frozen?_setCells]; exact h.fr q⟩
  rw [hf j hj]
  by_cases e : o ≤ j ∧ j < o + m
  · rw [if_pos e]
    have := World.rangeAt_setCells_same w g o (rowV m F) ht (j - o) _ (rowV_get (by omega))
    rwa [show o + (j - o) = j by omega] at this
  · rw [if_neg e]
    have hr : w.rangeAt g j [.int .u8 (f j)] := by
      intro i v hv
      have hi : i = 0 := by have := (List.getElem?_eq_some_iff.1 hv).1; simp at this; exact this
      subst hi
      simp at hv
      subst hv
      exact h.cell j hj
    have := World.rangeAt_setCells_apart hr g o (rowV m F) (by rw [rowV_length]; simp; omega) 0 _ rfl
    simpa using this
theorem BRow.thereAt {w : World} {g n : Nat} {f : Nat → Int} (h : BRow w g n f) (o m : Nat) (V : Nat → Int) (hn : o + m ≤ n) : w.there g o (rowV m V).toArray.size := by
  rw [List.size_toArray, rowV_length]
  intro j hj
  exact ⟨by rw [h.cell (o + j) (by omega)]; rfl, h.fr _⟩
set_option maxRecDepth 100000 in
set_option maxHeartbeats 8000000 in
theorem empties_any {w : World} (ht : Tab w 0) :
    Calls Tryd.prog 30 #[] w fun e w' => e = .returned (.agg (rowV 1056 (empF 32)).toArray) ∧ Below w.heap.size w w' := by
  have HT := hide ht
  clear ht
  have hz := fun w => zero1056 w
  have R0 := hide ((BRow.new w 1056 64 rfl).past (.cells (Array.replicate 1056 (.int .u8 0)) 64))
  have R1 := hide (BRow.new (w.alloc (.cells (Array.replicate 1056 (.int .u8 0)) 64)) 1056 64 (g := w.heap.size + 1) (by simp))
  have B : Hid (Below w.heap.size w ((w.alloc (.cells (Array.replicate 1056 (.int .u8 0)) 64)).alloc (.cells (Array.replicate 1056 (.int .u8 0)) 64))) := bAl (bAl (bMe w))
  go_enter Tryd.func30, Tryd.ntmps30
  go_wp2_with fail
  generalize (w.alloc (.cells (Array.replicate 1056 (.int .u8 0)) 64)).alloc (.cells (Array.replicate 1056 (.int .u8 0)) 64) = w1 at *
  have E : Hid (EE w w1 (fun _ => 0)) := ⟨R0.out, R1.out, B.out⟩
  clear R0 R1 B hz
  refine (refof_any 2 (by omega) (by omega) none 0 [] (.inl rfl) (fun l hl => by simp at hl) (by simp [dtext, ptexts, be_length]) (by simp) (HT.out.below E.out.below)).mono ?_
  rintro e w2 ⟨rfl, hb⟩
  replace E := hide (E.out.after hb)
  clear hb
  obtain ⟨F, hF⟩ : ∃ F, dsha 2 [] = F := ⟨_, rfl⟩
  rw [hF]
  have HF : Hid (demp 0 = F) := hF
  clear hF
  go_wp2_with (refine wpList_store_stop rfl 28 _ _ rfl (w.heap.size + 1) 0 (rowV 32 F) rfl rfl (E.out.out.thereAt 0 32 F (by omega)) (info_hash32A F) (rowV_oneA _ _) ?_)
  intro w3 hw3
  have E3 : Hid (EE w w3 (empF 0)) := by
    show EE _ _ _
    rw [hw3.out]
    exact ⟨E.out.res.of (by rw [setCells_size]; exact Nat.le_refl _) (setCells_block _ _ _ _ _ (by omega)), E.out.out.putAt 0 32 F (empF 0) (by omega) (fun j hj => by
      unfold empF
      by_cases e : j < 32
      · rw [if_pos (by omega), if_pos (by omega), show j / 32 = 0 by omega, show j % 32 = j - 0 by omega, HF.out]
      · rw [if_neg (by omega), if_neg (by omega)]), setCells_below E.out.below (by omega) _ _⟩
  clear hw3 E HF
  go_wp2
  go_loopg [2] 32 (fun gk t wr => ∃ k : Nat, gk + k = 32 ∧ t = .int .i64 ((k : Int) + 1) ∧ EE w wr (empF k))
  case atStart => exact ⟨0, by omega, rfl, E3.out⟩
  case round =>
    clear E3
    obtain ⟨k, hk, rfl, he⟩ := hrel
    have E := hide he; have HK := hide hk
    clear he hk
    by_cases hlt : k < 32
    · have hki : (k : Int) < 32 := by omega
      have hki2 : (k : Int) + 1 ≤ 32 := by omega
      obtain ⟨F2, hF2⟩ : ∃ F2, demp k = F2 := ⟨_, rfl⟩
      have HD : Hid (demp k = F2) := hF2
      have HB : Hid (∀ j, 0 ≤ F2 j ∧ F2 j < 256) := by rw [← hF2]; exact demp_bd k
      have hS0 : Hid (wr.drew.rangeAt (w.heap.size + 1) (k * 32) (rowV 32 F2)) := by
        rw [← hF2]
        refine (E.out.out.after (bMe wr).drew rfl).part (k * 32) 32 (demp k) (by omega) (fun j hj => ?_)
        unfold empF
        rw [if_pos (by omega), show (k * 32 + j) / 32 = k by omega, show (k * 32 + j) % 32 = j by omega]
      clear hF2
      go_wp2
      refine wp_region_held_drew (S := fun w' => w'.rangeAt (w.heap.size + 1) (k * 32) (rowV 32 F2)) (by kernel_rfl) hS0.out (fun hS => ?_)
      have HS := hide hS
      have HLT : Hid (w.heap.size + 1 < wr.drew.heap.size) := E.out.out.lt
      clear hS hS0
      have hwk : IntKind.i64.wrap (k : Int) = (k : Int) := by rw [IntKind.wrap_i64]; omega
      have hn1 : ¬ (33 : Int) ≤ (k : Int) := by omega
      have hn2 : ¬ (33 : Int) ≤ (k : Int) + 1 := by omega
      refine tk0 (v := .int .i64 ((k : Int) + 1)) (by kernel_rfl) (by kernel_rfl) (by kernel_rfl) (fun _ _ _ h => h) HS.out (Or.inl ⟨by rfl, fun w hw => by go_simp; try (with_reducible rfl)⟩) ?_
      simp only [Act.put, List.setIfInBounds_toArray, List.set_cons_zero, List.set_cons_succ]
      refine tk1 (v := .int .i64 ((k : Int) + 1)) (by kernel_rfl) (by kernel_rfl) (by kernel_rfl) (fun _ _ _ h => h) HS.out (Or.inl ⟨by rfl, fun w hw => by go_simp; try (with_reducible rfl)⟩) ?_
      simp only [Act.put, List.setIfInBounds_toArray, List.set_cons_zero, List.set_cons_succ]
      refine tk2 (v := .int .i64 (k : Int)) (by kernel_rfl) (by kernel_rfl) (by kernel_rfl) (fun _ _ _ h => h) HS.out (Or.inl ⟨by rfl, fun w hw => by go_simp; try (with_reducible rfl)⟩) ?_
      simp only [Act.put, List.setIfInBounds_toArray, List.set_cons_zero, List.set_cons_succ]
      refine tk3 (v := .pointer (some ⟨w.heap.size + 1, k * 32, none⟩)) (by kernel_rfl) (by kernel_rfl) (by kernel_rfl) (fun _ _ _ h => h) HS.out (Or.inl ⟨by rfl, fun w hw => by go_simp; try (with_reducible rfl)⟩) ?_
      simp only [Act.put, List.setIfInBounds_toArray, List.set_cons_zero, List.set_cons_succ]
      refine tk5 (v := .int .i64 ((k : Int) + 1)) (by kernel_rfl) (by kernel_rfl) (by kernel_rfl) (fun _ _ _ h => h) HS.out (Or.inl ⟨by rfl, fun w hw => by go_simp; try (with_reducible rfl)⟩) ?_
      simp only [Act.put, List.setIfInBounds_toArray, List.set_cons_zero, List.set_cons_succ]
      refine tk6 (v := .int .i64 (k : Int)) (by kernel_rfl) (by kernel_rfl) (by kernel_rfl) (fun _ _ _ h => h) HS.out (Or.inl ⟨by rfl, fun w hw => by go_simp; try (with_reducible rfl)⟩) ?_
      simp only [Act.put, List.setIfInBounds_toArray, List.set_cons_zero, List.set_cons_succ]
      refine tk7 (v := .pointer (some ⟨w.heap.size + 1, k * 32, none⟩)) (by kernel_rfl) (by kernel_rfl) (by kernel_rfl) (fun _ _ _ h => h) HS.out (Or.inl ⟨by rfl, fun w hw => by go_simp; try (with_reducible rfl)⟩) ?_
      simp only [Act.put, List.setIfInBounds_toArray, List.set_cons_zero, List.set_cons_succ]
      refine tk4 (by kernel_rfl) (by kernel_rfl) (by kernel_rfl) (fun _ _ _ h => h) HS.out (yieldsIf_load_mid (by rfl) _ _ rfl (w.heap.size + 1) (k * 32) rfl (rowV 32 F2) _ (fun _ hw => hw) Tryd.underlying28 rfl (info_hash32 _)) ?_
      simp only [Act.put, List.setIfInBounds_toArray, List.set_cons_zero, List.set_cons_succ]
      refine tk8 (by kernel_rfl) (by kernel_rfl) (by kernel_rfl) (fun _ _ _ h => h) HS.out (yieldsIf_load_mid (by rfl) _ _ rfl (w.heap.size + 1) (k * 32) rfl (rowV 32 F2) _ (fun _ hw => hw) Tryd.underlying28 rfl (info_hash32 _)) ?_
      simp only [Act.put, List.setIfInBounds_toArray, List.set_cons_zero, List.set_cons_succ]
      refine wpAnyH_ready (rs := [9]) (by kernel_rfl) (by simp) ?_
      refine rd9 (fun K hK => ?_) AllReadyH.nil
      go_simp
      refine (refnode_any F2 F2 HB.out HB.out (HT.out.below E.out.below.drew)).mono ?_
      rintro e w4 ⟨rfl, hb⟩
      simp only []
      replace E := hide ((E.out.after (bMe wr).drew).after hb)
      replace HS : Hid (w4.rangeAt (w.heap.size + 1) (k * 32) (rowV 32 F2)) := fun j v hv => (hb.cell (p := ⟨w.heap.size + 1, k * 32 + j, none⟩) (by have := HLT.out; exact this)).trans (HS.out j v hv)
      clear hb
      refine hK.out _ _ HS.out (fun _ => ?_)
      clear hK K
      obtain ⟨N, hN⟩ : ∃ N, dnode F2 F2 = N := ⟨_, rfl⟩
      have HN : Hid (demp (k + 1) = N) := by show _ = _; rw [demp_next, HD.out, hN]
      rw [hN]
      clear hN
      have hn3 : ¬ (k : Int) + 1 < 0 := by omega
      refine tk10 (v := .pointer (some ⟨w.heap.size + 1, (k + 1) * 32, none⟩)) (by kernel_rfl) (by kernel_rfl) (by kernel_rfl) (fun _ _ _ h => h) HS.out (Or.inl ⟨by rfl, fun w hw => by go_simp; try (with_reducible rfl)⟩) ?_
      simp only [Act.put, List.setIfInBounds_toArray, List.set_cons_zero, List.set_cons_succ]
      refine wpAnyH_ready (rs := [11]) (by kernel_rfl) (by simp) ?_
      refine rd11 (fun K hK => ?_) AllReadyH.nil
      rw [if_pos (by rfl)]
      refine wp_store_mid _ _ _ rfl (w.heap.size + 1) ((k + 1) * 32) (rowV 32 N).toArray rfl rfl (E.out.out.thereAt _ 32 N (by omega)) (info_hash32A _) (rowV_oneA _ _) ?_
      refine hK.out _ _ (World.rangeAt_setCells_apart HS.out _ _ _ (by rw [rowV_length]; omega)) (fun _ => ?_)
      clear hK K
      refine wpAnyH_done (by kernel_rfl) ?_ _
      have E5 : Hid (EE w (w4.setCells (w.heap.size + 1) ((k + 1) * 32) (rowV 32 N)) (empF (k + 1))) := by
        refine ⟨E.out.res.of (by rw [setCells_size]; exact Nat.le_refl _) (setCells_block _ _ _ _ _ (by omega)), E.out.out.putAt _ 32 N (empF (k + 1)) (by omega) (fun j hj => ?_), setCells_below E.out.below (by omega) _ _⟩
        unfold empF
        by_cases e : (k + 1) * 32 ≤ j ∧ j < (k + 1) * 32 + 32
        · rw [if_pos (by omega), if_pos e, show j / 32 = k + 1 by omega, HN.out, show j % 32 = j - (k + 1) * 32 by omega]
        · rw [if_neg e]
          by_cases e2 : j < 32 * (k + 1)
          · rw [if_pos (by omega), if_pos e2]
          · rw [if_neg (by omega), if_neg e2]
      simp only [Act.put]
      generalize w4.setCells (w.heap.size + 1) ((k + 1) * 32) (rowV 32 N) = w5 at *
      go_wp2
      go_roundg (32 - k - 1)
      case measure => have := HK.out; omega
      case rel => exact ⟨k + 1, by omega, by go_num, E5.out⟩
    · obtain rfl : k = 32 := by have := HK.out; omega
      clear HK hlt
      obtain ⟨G, hG⟩ : ∃ G, empF 32 = G := ⟨_, rfl⟩
      have HG := hide hG
      rw [hG] at E
      clear hG
      have iL : (Tryd.prog.info? 64).map (·.size) = some (rowV 1056 G).length := by rw [rowV_length]; kernel_rfl
      have iA : (Tryd.prog.info? 64).map (·.size) = some (rowV 1056 G).toArray.size := by rw [List.size_toArray, rowV_length]; kernel_rfl
      have HIL := hide iL; have HIA := hide iA
      clear iL iA
      go_wp2_with (first
        | refine wpList_load_mid rfl 64 _ rfl (w.heap.size + 1) 0 rfl (rowV 1056 G) _ E.out.out.range Tryd.underlying64 rfl HIL.out ?_
        | refine wpList_store_mid rfl 64 _ _ rfl w.heap.size 0 (rowV 1056 G).toArray rfl rfl (E.out.res.thereA _) HIA.out (rowV_oneA _ _) ?_)
      refine bodyPost_ret (v := .agg (rowV 1056 G).toArray) ?_ rfl ⟨by rw [HG.out], setCells_below E.out.below (Nat.le_refl _) _ _⟩
      have hlv := run_loadVar_mid (P := Tryd.prog) _ _ _ _ _ _ (E.out.res.stored G).range Tryd.underlying64 rfl HIL.out
      exact results_one Tryd.results30 rfl hlv
end Go.Proofs.YtjkhboejhcbdpaaDoor
