/- The contract of a tree's Copy over this translation (written by gen-treecopy.py). -/
import Derived.Test.YtlkmebimgpigjaaDoorTreeCut
namespace Go.Proofs.YtlkmebimgpigjaaDoor
open Go.RowKit Go.Lib
attribute [local go_sem] setCell_drewN alloc_drewN

theorem copy_nil {w : World} :
    Calls Tryd.prog 20 #[.pointer none] w fun e w' => e = .returned (.pointer none) ∧ w' = w := by
  go_enter Tryd.func20, Tryd.ntmps20
  go_wp2
  go_ret
  exact ⟨rfl, rfl⟩
/-- The rows below a level are there, the others not yet. -/
def mixe (L : List Hs) (l : Nat) : Nat → List Hs := fun k => if k < l then lv L k else []
theorem mixe_next (L : List Hs) (l : Nat) : upd (mixe L l) l (lv L l) = mixe L (l + 1) := by
  funext k
  unfold upd mixe
  by_cases e : k = l
  · subst e
    rw [if_pos rfl, if_pos (by omega)]
  · rw [if_neg e]
    by_cases e2 : k < l
    · rw [if_pos e2, if_pos (by omega)]
    · rw [if_neg e2, if_neg (by omega)]
set_option maxRecDepth 100000 in
set_option maxHeartbeats 8000000 in
theorem copy_any {w : World} {g d : Nat} {S : Nat → Prop} {L : List Hs} (h : Tr w g S d L) :
    Calls Tryd.prog 20 #[.pointer (some ⟨g, 0, none⟩)] w fun e w' => ∃ g2 S2, e = .returned (.pointer (some ⟨g2, 0, none⟩)) ∧ Tr w' g2 S2 d L ∧ Below w.heap.size w w' ∧ ∀ b, S2 b → w.heap.size ≤ b := by
  have H := hide h
  have c0 := h.box.c0
  have hfew := h.few
  have HD := hide h.dep
  clear h
  go_enter Tryd.func20, Tryd.ntmps20
  go_wp2_with fail
  refine (tnew_any d HD.out).mono ?_
  rintro e w1 ⟨rfl, hbox, hb⟩
  have B := hide hb
  have BV := hide hb
  have N := hide hbox
  obtain ⟨V, hr, hV⟩ := (H.out.box.below hb).all
  have HR0 := hide hr; have HVS := hide hV
  clear hb hbox hr hV c0
  go_wp2_with (refine wpList_load_mid rfl 52 _ rfl g 1 rfl (rowsV V) _ HR0.out Tryd.underlying52 rfl (info_rows V) ?_)
  go_loopg [4, 5, 17] 33 (fun gk t4 t5 t wr => ∃ k : Nat, gk + k = 33 ∧ t = .int .i64 k ∧ Below w.heap.size w wr ∧ ∃ S', Rw wr w.heap.size S' d (mixe L k) ∧ ∀ b, S' b → w.heap.size ≤ b)
  case atStart => exact ⟨0, by omega, rfl, B.out, _, N.out.congr (fun k _ => by unfold mixe; rw [if_neg (by omega)]), fun b hb => by rw [hb]; exact Nat.le_refl _⟩
  case round =>
    obtain ⟨k, hk0, rfl, hb1, S1, hx1, hs1⟩ := hrel
    have BB := hide hb1; have HB := hide hx1; have HS := hide hs1; have HK := hide hk0
    clear hk0 hb1 hx1 hs1 N B
    by_cases hlt : k < 33
    · have hki : (k : Int) < 33 := by omega
      have hki32 : (k : Int) ≤ 32 := by omega
      have HK33 := hide hlt
      have ixk := fun (w : World) => idx_rows V k hlt w
      obtain ⟨v0, hc0, _, _⟩ := HB.out.row hlt
      have HC0 := hide hc0
      obtain ⟨v, hcw, hv, hsv⟩ := H.out.box.row hlt
      have hvk : v = V k := by
        have e1 := HVS.out k hlt
        have e2 := (BV.out.cell (p := ⟨g, k + 1, none⟩) H.out.box.lt).trans hcw
        rw [e1] at e2
        injection e2 with e2
        exact e2.symm
      rw [hvk] at hv
      have HV := hide (hv.below BB.out)
      have HLL : Hid ((lv L k).length ≤ 1000000) := by show _ ≤ _; rw [lv_length]; have := Nat.div_le_self L.length (2 ^ k); omega
      have HM2 := hide (mixe_next L k)
      clear hv hcw hsv hvk hc0 hlt
      go_wp2_with fail
      have X : Hid True := trivial
      refine wp_region_held_drew (S := fun _ => True) (by kernel_rfl) X.out (fun _ => ?_)
      refine tk0 (v := .pointer (some ⟨w.heap.size, 0, none⟩)) (by kernel_rfl) (by kernel_rfl) (by kernel_rfl) (fun _ _ _ h => h) X.out (Or.inl ⟨by rfl, fun w hw => by go_simp; try (with_reducible rfl)⟩) ?_
      simp only [Act.put, List.setIfInBounds_toArray, List.set_cons_zero, List.set_cons_succ]
      refine tk1 (v := .int .i64 (k : Int)) (by kernel_rfl) (by kernel_rfl) (by kernel_rfl) (fun _ _ _ h => h) X.out (Or.inl ⟨by rfl, fun w hw => by go_simp; try (with_reducible rfl)⟩) ?_
      simp only [Act.put, List.setIfInBounds_toArray, List.set_cons_zero, List.set_cons_succ]
      refine tk2 (v := V k) (by kernel_rfl) (by kernel_rfl) (by kernel_rfl) (fun _ _ _ h => h) X.out (Or.inl ⟨by rfl, fun w hw => by go_simp; try (with_reducible rfl)⟩) ?_
      simp only [Act.put, List.setIfInBounds_toArray, List.set_cons_zero, List.set_cons_succ]
      refine tk4 (v := .pointer (some ⟨w.heap.size, 0, none⟩)) (by kernel_rfl) (by kernel_rfl) (by kernel_rfl) (fun _ _ _ h => h) X.out (Or.inl ⟨by rfl, fun w hw => by go_simp; try (with_reducible rfl)⟩) ?_
      simp only [Act.put, List.setIfInBounds_toArray, List.set_cons_zero, List.set_cons_succ]
      refine tk5 (v := .pointer (some ⟨w.heap.size, 1, none⟩)) (by kernel_rfl) (by kernel_rfl) (by kernel_rfl) (fun _ _ _ h => h) X.out (Or.inl ⟨by rfl, fun w hw => by go_simp; try (with_reducible rfl)⟩) ?_
      simp only [Act.put, List.setIfInBounds_toArray, List.set_cons_zero, List.set_cons_succ]
      refine wpAnyH_ready (rs := [3]) (by kernel_rfl) (by simp) ?_
      refine rd3 (fun K hK => ?_) AllReadyH.nil
      go_simp
      refine (clone_any (HV.out.below (bMe wr).drew) HLL.out).mono ?_
      rintro e9 w3 ⟨v3, rfl, hv3, hb3, ho3⟩
      simp only []
      refine hK.out _ _ trivial (fun _ => ?_)
      clear hK K
      have hg3 : wr.drew.grownBy w3 v0.ownBlock := ⟨hb3.os, hb3.tape, hb3.output, hb3.size, fun b hb _ => hb3.block b hb⟩
      obtain ⟨p1, p2, S3, p3, p4⟩ := HB.out.put (k := k) (bMe wr).drew HK33.out HC0.out hv3 hg3 (fun b hb => .inr (ho3 b hb))
      obtain ⟨ao3, cap3, rfl, -, -, -, -⟩ := hv3.form
      rw [Nat.add_comm k 1] at p1 p2 p3 p4
      rw [HM2.out] at p3
      have HP3 := hide p3; have HP4 := hide p4
      clear p3 p4 hg3 ho3 hv3 hb3
      refine tk6 (v := .pointer (some ⟨w.heap.size, 1 + k, none⟩)) (by kernel_rfl) (by kernel_rfl) (by kernel_rfl) (fun _ _ _ h => h) X.out (Or.inl ⟨by rfl, fun w hw => by go_simp; try (with_reducible rfl)⟩) ?_
      simp only [Act.put, List.setIfInBounds_toArray, List.set_cons_zero, List.set_cons_succ]
      refine wpAnyH_ready (rs := [7]) (by kernel_rfl) (by simp) ?_
      refine rd7 (fun K hK => ?_) AllReadyH.nil
      go_simp
      refine hK.out _ _ trivial (fun _ => ?_)
      clear hK K p1 p2
      refine wpAnyH_done (by kernel_rfl) ?_ _
      try simp only [Act.put]
      generalize w3.setCell ⟨w.heap.size, 1 + k, none⟩ (.slice ao3 (lv L k).length cap3) = w5 at *
      go_wp2
      go_roundg (33 - k - 1)
      case measure => have := HK.out; have := HK33.out; omega
      case rel => exact ⟨k + 1, by omega, by go_num, HP4.out.below BB.out HS.out, S3, HP3.out, fun b hb => by
        rcases HP4.out.own b hb with e | e
        · exact HS.out b e
        · exact Nat.le_trans BB.out.size e⟩
    · obtain rfl : k = 33 := by have := HK.out; omega
      have T : Hid (Tr wr w.heap.size S1 d L) := ⟨H.out.dep, H.out.len, H.out.few, H.out.ok, HB.out.congr (fun j hj => by unfold mixe; rw [if_pos hj])⟩
      go_wp2
      go_ret
      exact ⟨_, S1, rfl, T.out, BB.out, HS.out⟩
end Go.Proofs.YtlkmebimgpigjaaDoor
