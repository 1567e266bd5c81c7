/- The contract of a tree's Root over this translation. -/
import Derived.Test.YtlkmebimgpigjaaDoorTreeNode
namespace Go.Proofs.YtlkmebimgpigjaaDoor
open Go.RowKit Go.Lib
attribute [local go_sem] setCell_drewN alloc_drewN

set_option maxRecDepth 100000 in
set_option maxHeartbeats 8000000 in
theorem root_any {w : World} {g d : Nat} {S : Nat → Prop} {L : List Hs} (h : Tr w g S d L) (ht : Tab w 1) :
    Calls Tryd.prog 11 #[.pointer (some ⟨g, 0, none⟩)] w fun e w' => e = .returned (.agg (rowV 32 (tn L d 0)).toArray) ∧ Below w.heap.size w w' := by
  have R := hide (BRow.zeros32 w (g := w.heap.size) rfl)
  have B : Hid (Below w.heap.size w (w.alloc (.cells #[.int .u8 0, .int .u8 0, .int .u8 0, .int .u8 0, .int .u8 0, .int .u8 0, .int .u8 0, .int .u8 0, .int .u8 0, .int .u8 0, .int .u8 0, .int .u8 0, .int .u8 0, .int .u8 0, .int .u8 0, .int .u8 0, .int .u8 0, .int .u8 0, .int .u8 0, .int .u8 0, .int .u8 0, .int .u8 0, .int .u8 0, .int .u8 0, .int .u8 0, .int .u8 0, .int .u8 0, .int .u8 0, .int .u8 0, .int .u8 0, .int .u8 0, .int .u8 0] 32))) := bAl (bMe w)
  have H := hide (h.below B.out)
  have HT := hide (ht.below B.out)
  have hfew := h.few
  clear h ht
  go_enter Tryd.func11, Tryd.ntmps11
  go_wp2_with (first
      | (go_at_call 18; refine (len_any H.out.box (by rw [lv_zero]; omega)).mono ?_; rintro e w' ⟨rfl, rfl⟩; rw [lv_zero])
      | (go_at_call 10; refine (depth_any H.out.box).mono ?_; rintro e w' ⟨rfl, rfl⟩))
  generalize w.alloc (.cells #[.int .u8 0, .int .u8 0, .int .u8 0, .int .u8 0, .int .u8 0, .int .u8 0, .int .u8 0, .int .u8 0, .int .u8 0, .int .u8 0, .int .u8 0, .int .u8 0, .int .u8 0, .int .u8 0, .int .u8 0, .int .u8 0, .int .u8 0, .int .u8 0, .int .u8 0, .int .u8 0, .int .u8 0, .int .u8 0, .int .u8 0, .int .u8 0, .int .u8 0, .int .u8 0, .int .u8 0, .int .u8 0, .int .u8 0, .int .u8 0, .int .u8 0, .int .u8 0] 32) = w1 at *
  have hn := node_yes H.out L.length d 0 (Nat.le_refl _) (Nat.le_refl _) (Nat.two_pow_pos _) HT.out
  refine hn.mono ?_
  clear hn
  rintro e w2 ⟨rfl, hb⟩
  rw [List.take_length]
  obtain ⟨N, hN⟩ : ∃ N, tn L d 0 = N := ⟨_, rfl⟩
  rw [hN]
  have HN := hide hN
  clear hN
  replace R := hide (R.out.after hb rfl)
  replace B := hide (bOn B.out hb)
  clear hb
  have HLO : Hid (w.heap.size < w2.heap.size) := R.out.lt
  have R2 := hide (BRow.zeros32 w2 (g := w2.heap.size) rfl)
  replace R := hide (R.out.past (.cells #[.int .u8 0, .int .u8 0, .int .u8 0, .int .u8 0, .int .u8 0, .int .u8 0, .int .u8 0, .int .u8 0, .int .u8 0, .int .u8 0, .int .u8 0, .int .u8 0, .int .u8 0, .int .u8 0, .int .u8 0, .int .u8 0, .int .u8 0, .int .u8 0, .int .u8 0, .int .u8 0, .int .u8 0, .int .u8 0, .int .u8 0, .int .u8 0, .int .u8 0, .int .u8 0, .int .u8 0, .int .u8 0, .int .u8 0, .int .u8 0, .int .u8 0, .int .u8 0] 32))
  replace B := hide (bAl (o := (.cells #[.int .u8 0, .int .u8 0, .int .u8 0, .int .u8 0, .int .u8 0, .int .u8 0, .int .u8 0, .int .u8 0, .int .u8 0, .int .u8 0, .int .u8 0, .int .u8 0, .int .u8 0, .int .u8 0, .int .u8 0, .int .u8 0, .int .u8 0, .int .u8 0, .int .u8 0, .int .u8 0, .int .u8 0, .int .u8 0, .int .u8 0, .int .u8 0, .int .u8 0, .int .u8 0, .int .u8 0, .int .u8 0, .int .u8 0, .int .u8 0, .int .u8 0, .int .u8 0] 32)) B.out)
  go_wp2_with (refine wpList_store_stop rfl 32 _ _ rfl w2.heap.size 0 (rowV 32 N) rfl rfl (R2.out.thereA N) (info_hash32A N) (rowV_oneA _ _) ?_)
  intro w3 hw3
  have E : Hid (BRow w3 w.heap.size 32 (fun _ => 0) ∧ BRow w3 w2.heap.size 32 N ∧ Below w.heap.size w w3) := by
    show _ ∧ _ ∧ _
    rw [hw3.out]
    exact ⟨R.out.off (by have := HLO.out; omega) _ _, R2.out.stored N, setCells_below B.out (by have := HLO.out; omega) _ _⟩
  clear hw3 R R2 B
  generalize w2.heap.size = g1 at *
  go_wp2_with (first
    | refine wpList_load_mid rfl 32 _ rfl g1 0 rfl (rowV 32 N) _ E.out.2.1.range Tryd.underlying32 rfl (info_hash32 _) ?_
    | refine wpList_store_mid rfl 32 _ _ rfl w.heap.size 0 (rowV 32 N).toArray rfl rfl (E.out.1.thereA _) (info_hash32A _) (rowV_oneA _ _) ?_)
  refine bodyPost_ret (v := .agg (rowV 32 N).toArray) ?_ rfl ⟨by rw [HN.out], setCells_below E.out.2.2 (Nat.le_refl _) _ _⟩
  have hlv := run_loadVar_mid (P := Tryd.prog) _ _ _ _ _ _ (E.out.1.stored N).range Tryd.underlying32 rfl (info_hash32 _)
  exact results_one Tryd.results11 rfl hlv
set_option maxRecDepth 100000 in
set_option maxHeartbeats 8000000 in
theorem root_nil {w : World} :
    Calls Tryd.prog 11 #[.pointer none] w fun e w' => e = .returned (.agg (rowV 32 hz).toArray) ∧ Below w.heap.size w w' := by
  have R := hide (BRow.zeros32 w (g := w.heap.size) rfl)
  have B : Hid (Below w.heap.size w (w.alloc (.cells #[.int .u8 0, .int .u8 0, .int .u8 0, .int .u8 0, .int .u8 0, .int .u8 0, .int .u8 0, .int .u8 0, .int .u8 0, .int .u8 0, .int .u8 0, .int .u8 0, .int .u8 0, .int .u8 0, .int .u8 0, .int .u8 0, .int .u8 0, .int .u8 0, .int .u8 0, .int .u8 0, .int .u8 0, .int .u8 0, .int .u8 0, .int .u8 0, .int .u8 0, .int .u8 0, .int .u8 0, .int .u8 0, .int .u8 0, .int .u8 0, .int .u8 0, .int .u8 0] 32))) := bAl (bMe w)
  go_enter Tryd.func11, Tryd.ntmps11
  go_wp2_with (first
      | (go_at_call 18; refine len_nil.mono ?_; rintro e w' ⟨rfl, rfl⟩)
      | (go_at_call 10; refine depth_nil.mono ?_; rintro e w' ⟨rfl, rfl⟩))
  generalize w.alloc (.cells #[.int .u8 0, .int .u8 0, .int .u8 0, .int .u8 0, .int .u8 0, .int .u8 0, .int .u8 0, .int .u8 0, .int .u8 0, .int .u8 0, .int .u8 0, .int .u8 0, .int .u8 0, .int .u8 0, .int .u8 0, .int .u8 0, .int .u8 0, .int .u8 0, .int .u8 0, .int .u8 0, .int .u8 0, .int .u8 0, .int .u8 0, .int .u8 0, .int .u8 0, .int .u8 0, .int .u8 0, .int .u8 0, .int .u8 0, .int .u8 0, .int .u8 0, .int .u8 0] 32) = w1 at *
  refine (node_nil 0 0 0).mono ?_
  rintro e w2 ⟨rfl, hb⟩
  replace R := hide (R.out.after hb rfl)
  replace B := hide (bOn B.out hb)
  clear hb
  have HLO : Hid (w.heap.size < w2.heap.size) := R.out.lt
  have R2 := hide (BRow.zeros32 w2 (g := w2.heap.size) rfl)
  replace R := hide (R.out.past (.cells #[.int .u8 0, .int .u8 0, .int .u8 0, .int .u8 0, .int .u8 0, .int .u8 0, .int .u8 0, .int .u8 0, .int .u8 0, .int .u8 0, .int .u8 0, .int .u8 0, .int .u8 0, .int .u8 0, .int .u8 0, .int .u8 0, .int .u8 0, .int .u8 0, .int .u8 0, .int .u8 0, .int .u8 0, .int .u8 0, .int .u8 0, .int .u8 0, .int .u8 0, .int .u8 0, .int .u8 0, .int .u8 0, .int .u8 0, .int .u8 0, .int .u8 0, .int .u8 0] 32))
  replace B := hide (bAl (o := (.cells #[.int .u8 0, .int .u8 0, .int .u8 0, .int .u8 0, .int .u8 0, .int .u8 0, .int .u8 0, .int .u8 0, .int .u8 0, .int .u8 0, .int .u8 0, .int .u8 0, .int .u8 0, .int .u8 0, .int .u8 0, .int .u8 0, .int .u8 0, .int .u8 0, .int .u8 0, .int .u8 0, .int .u8 0, .int .u8 0, .int .u8 0, .int .u8 0, .int .u8 0, .int .u8 0, .int .u8 0, .int .u8 0, .int .u8 0, .int .u8 0, .int .u8 0, .int .u8 0] 32)) B.out)
  go_wp2_with (refine wpList_store_stop rfl 32 _ _ rfl w2.heap.size 0 (rowV 32 hz) rfl rfl (R2.out.thereA hz) (info_hash32A hz) (rowV_oneA _ _) ?_)
  intro w3 hw3
  have E : Hid (BRow w3 w.heap.size 32 (fun _ => 0) ∧ BRow w3 w2.heap.size 32 hz ∧ Below w.heap.size w w3) := by
    show _ ∧ _ ∧ _
    rw [hw3.out]
    exact ⟨R.out.off (by have := HLO.out; omega) _ _, R2.out.stored hz, setCells_below B.out (by have := HLO.out; omega) _ _⟩
  clear hw3 R R2 B
  generalize w2.heap.size = g1 at *
  go_wp2_with (first
    | refine wpList_load_mid rfl 32 _ rfl g1 0 rfl (rowV 32 hz) _ E.out.2.1.range Tryd.underlying32 rfl (info_hash32 _) ?_
    | refine wpList_store_mid rfl 32 _ _ rfl w.heap.size 0 (rowV 32 hz).toArray rfl rfl (E.out.1.thereA _) (info_hash32A _) (rowV_oneA _ _) ?_)
  refine bodyPost_ret (v := .agg (rowV 32 hz).toArray) ?_ rfl ⟨rfl, setCells_below E.out.2.2 (Nat.le_refl _) _ _⟩
  have hlv := run_loadVar_mid (P := Tryd.prog) _ _ _ _ _ _ (E.out.1.stored hz).range Tryd.underlying32 rfl (info_hash32 _)
  exact results_one Tryd.results11 rfl hlv
end Go.Proofs.YtlkmebimgpigjaaDoor
