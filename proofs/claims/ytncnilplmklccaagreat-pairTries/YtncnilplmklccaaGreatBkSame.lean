/- Has a book just the document's balances? (gen-booksame.py) -/
import Derived.Test.YtncnilplmklccaaGreatRef14
import Derived.Test.YtncnilplmklccaaGreatBkPlay
namespace Go.Proofs.YtncnilplmklccaaGreat
set_option linter.unusedSimpArgs false
set_option linter.unusedVariables false
open Go.RowKit Go.Lib
attribute [local go_sem] setCell_drewN alloc_drewN eqInt

set_option maxRecDepth 100000 in
set_option maxHeartbeats 4000000 in
theorem same13_any {W w : World} {bj : Jk} {bb n : Nat} {h : Nat → Kvs} {Fr : Nat → Prop} (B : BS W w bj bb n h Fr) (hn : n ≤ 9000) :
    Calls Tryz.prog 14 #[.pointer (some ⟨bb, 0, none⟩), tv (tb (h n))] w fun e w' => e = .returned (.bool true) ∧ Below w.heap.size w w' := by
  have HB := hide B
  have HN := hide hn
  have hgd := B.good
  have htx := txt_tb hgd.1
  have HTB := hide (fun (t p : Nat) (hp : p < 18) => tb_at (h n) t hp)
  have HSU := hide (fun t : Nat => tb_sup (h n) t)
  have HSI := hide (fun t : Nat => hgd.2.2 (t : Int))
  have HTO := hide (tb_ok (h n))
  clear B hn hgd
  obtain ⟨T, hT⟩ : ∃ T, tb (h n) = T := ⟨_, rfl⟩
  rw [hT] at htx HTB HSU HTO ⊢
  clear hT
  obtain ⟨TX, hTX⟩ : ∃ TX, txT T 72 = TX := ⟨_, rfl⟩
  rw [hTX] at htx
  have CT := hide (fun w => text13_any HTO.out w)
  rw [hTX] at CT
  have CB := hide (fun (w1 : World) (hb : Below w.heap.size w w1) => bytes13_l (HB.out.below hb) HN.out)
  rw [← htx] at CB
  clear hTX htx
  obtain ⟨W1, hW⟩ : ∃ W1, w.alloc (.cells (rowU 288 (tl T)).toArray 33) = W1 := ⟨_, rfl⟩
  obtain ⟨g, hg⟩ : ∃ g, w.heap.size = g := ⟨_, rfl⟩
  have E : Hid (Uxs w W1 [(g, 288, tl T)]) := by rw [← hW]; exact hide ((Uxs.none w).add hg (URow.box w 288 (tl T) _ hg))
  go_enter Tryz.func14, Tryz.ntmps14
  go_wp2
  try rw [hW]
  try rw [hg]
  clear hW hg
  have X : Hid (Uxs w W1.drew [(g, 288, tl T)]) := hide (E.out.after (bMe W1).drew)
  clear E
  refine wp_region_held_drew (S := fun w1 => Uxs w w1 [(g, 288, tl T)]) (by kernel_rfl) X.out (fun _ => ?_)
  generalize W1.drew = w4 at *
  refine tk0 (v := .pointer (some ⟨bb, 0, none⟩)) (by kernel_rfl) (by kernel_rfl) (by kernel_rfl) (fun _ _ _ h => h) X.out (Or.inl ⟨by rfl, fun w hw => by go_simp; try (with_reducible rfl)⟩) ?_
  simp only [Act.put, List.setIfInBounds_toArray, List.set_cons_zero, List.set_cons_succ]
  refine tk3 (by kernel_rfl) (by kernel_rfl) (by kernel_rfl) (fun _ _ _ h => h) X.out (yieldsIf_load_mid (by rfl) _ _ rfl (g) (0) rfl (rowU 288 (tl T)) _ (fun _ hw => (hw.get 0 rfl).range) Tryz.underlying33 rfl (info_tb _)) ?_
  simp only [Act.put, List.setIfInBounds_toArray, List.set_cons_zero, List.set_cons_succ]
  refine wpAnyH_ready (rs := [1]) (by kernel_rfl) (by simp) ?_
  refine rd1 (fun K hK => ?_) AllReadyH.nil
  go_simp
  refine (CB.out w4 X.out.below).mono ?_
  rintro e w5 ⟨v, rfl, hv, hb⟩
  simp only []
  obtain ⟨bo, bc, rfl, -, -, k7⟩ := hv.cell
  replace X : Hid (Uxs w w5 [(g, 288, tl T)] ∧ At w5 bo TX) := ⟨X.out.after hb, k7⟩
  clear hv hb k7
  refine hK.out _ _ X.out.1 (fun _ => ?_)
  clear hK K
  refine hand_more (S' := fun w' => Uxs w w' [(g, 288, tl T)] ∧ At w' bo TX) (fun _ h => h.1) _ _ _ _ ?_
  refine tk2 (v := .string (strOfNums TX)) (by kernel_rfl) (by kernel_rfl) (by kernel_rfl) (fun _ _ _ h => h) X.out (Or.inl ⟨by rfl, fun w hw => by have c := hw.2.str bc; go_simp; try (with_reducible rfl)⟩) ?_
  simp only [Act.put, List.setIfInBounds_toArray, List.set_cons_zero, List.set_cons_succ]
  refine wpAnyH_ready (rs := [4]) (by kernel_rfl) (by simp) ?_
  refine rd4 (fun K hK => ?_) AllReadyH.nil
  go_simp
  refine (CT.out w5).mono ?_
  rintro e w6 ⟨rfl, hb⟩
  simp only []
  replace X := hide (⟨X.out.1.after hb, X.out.2.below hb⟩ : Uxs w w6 [(g, 288, tl T)] ∧ At w6 bo TX)
  clear hb
  refine hK.out _ _ X.out (fun _ => ?_)
  clear hK K
  refine tk5 (v := .bool false) (by kernel_rfl) (by kernel_rfl) (by kernel_rfl) (fun _ _ _ h => h) X.out (Or.inl ⟨by rfl, fun w hw => by go_simp; try (with_reducible rfl)⟩) ?_
  simp only [Act.put, List.setIfInBounds_toArray, List.set_cons_zero, List.set_cons_succ]
  refine wpAnyH_done (by kernel_rfl) ?_ _
  replace X := hide X.out.1
  clear CT CB
  go_wp2
  go_loopw [13] (fun q wr => ∃ t : Nat, t ≤ 4 ∧ q = .int .u8 t ∧ Uxs w wr [(g, 288, tl T)]) (fun q _ => 4 - (intOf q).toNat)
  case atStart => exact ⟨0, by omega, rfl, X.out⟩
  case round =>
    obtain ⟨t, ht, rfl, hx⟩ := hrel
    have X0 := hide hx
    clear hx X
    by_cases hlt : t < 4
    · have hlt' : (t : Int) < 4 := by omega
      go_wp2
      go_loopw [16] (fun q wr => ∃ p : Nat, p ≤ 18 ∧ q = .int .u8 p ∧ Uxs w wr [(g, 288, tl T)]) (fun q _ => 18 - (intOf q).toNat)
      case atStart => exact ⟨0, by omega, rfl, X0.out⟩
      case round =>
        obtain ⟨p, hp, rfl, hx⟩ := hrel
        have X1 := hide hx
        clear hx X0
        by_cases hlp : p < 18
        · have hlp' : (p : Int) < 18 := by omega
          have C1 := hide (fun (w1 : World) (hb : Below w.heap.size w w1) => balance_l (HB.out.below hb) (t := (t : Int)) (p := (p : Int)) (by omega) (by omega))
          have HR := hide (fun (w1 : World) (hr : URow w1 g 288 (tl T)) => hr.balAt hlt hlp)
          have hTN := HTB.out t p hlp
          obtain ⟨N, hNe⟩ : ∃ N, bal (h n) ((t : Int), (p : Int)) = N := ⟨_, rfl⟩
          rw [hNe] at C1 hTN
          rw [hTN] at HR
          have hs1 : same4 (lm N 0) (lm N 1) (lm N 2) (lm N 3) (lm N 0) (lm N 1) (lm N 2) (lm N 3) = true := by unfold same4; simp
          clear hNe hTN
          go_wp2
          have X : Hid (Uxs w wr.drew [(g, 288, tl T)]) := hide (X1.out.after (bMe wr).drew)
          clear X1
          refine wp_region_held_drew (S := fun w1 => Uxs w w1 [(g, 288, tl T)]) (by kernel_rfl) X.out (fun _ => ?_)
          generalize wr.drew = w4 at *
          refine tk0 (v := .pointer (some ⟨bb, 0, none⟩)) (by kernel_rfl) (by kernel_rfl) (by kernel_rfl) (fun _ _ _ h => h) X.out (Or.inl ⟨by rfl, fun w hw => by go_simp; try (with_reducible rfl)⟩) ?_
          simp only [Act.put, List.setIfInBounds_toArray, List.set_cons_zero, List.set_cons_succ]
          refine tk1 (v := .int .u8 (t : Int)) (by kernel_rfl) (by kernel_rfl) (by kernel_rfl) (fun _ _ _ h => h) X.out (Or.inl ⟨by rfl, fun w hw => by go_simp; try (with_reducible rfl)⟩) ?_
          simp only [Act.put, List.setIfInBounds_toArray, List.set_cons_zero, List.set_cons_succ]
          refine tk2 (v := .int .u8 (p : Int)) (by kernel_rfl) (by kernel_rfl) (by kernel_rfl) (fun _ _ _ h => h) X.out (Or.inl ⟨by rfl, fun w hw => by go_simp; try (with_reducible rfl)⟩) ?_
          simp only [Act.put, List.setIfInBounds_toArray, List.set_cons_zero, List.set_cons_succ]
          refine tk4 (v := .int .u8 (t : Int)) (by kernel_rfl) (by kernel_rfl) (by kernel_rfl) (fun _ _ _ h => h) X.out (Or.inl ⟨by rfl, fun w hw => by go_simp; try (with_reducible rfl)⟩) ?_
          simp only [Act.put, List.setIfInBounds_toArray, List.set_cons_zero, List.set_cons_succ]
          refine tk5 (v := .int .u8 (p : Int)) (by kernel_rfl) (by kernel_rfl) (by kernel_rfl) (fun _ _ _ h => h) X.out (Or.inl ⟨by rfl, fun w hw => by go_simp; try (with_reducible rfl)⟩) ?_
          simp only [Act.put, List.setIfInBounds_toArray, List.set_cons_zero, List.set_cons_succ]
          refine tk6 (v := .pointer (some ⟨g, 0, none⟩)) (by kernel_rfl) (by kernel_rfl) (by kernel_rfl) (fun _ _ _ h => h) X.out (Or.inl ⟨by rfl, fun w hw => by go_simp; try (with_reducible rfl)⟩) ?_
          simp only [Act.put, List.setIfInBounds_toArray, List.set_cons_zero, List.set_cons_succ]
          refine tk7 (v := .pointer (some ⟨g, t * 72, none⟩)) (by kernel_rfl) (by kernel_rfl) (by kernel_rfl) (fun _ _ _ h => h) X.out (Or.inl ⟨by rfl, fun w hw => by go_simp; try (with_reducible rfl)⟩) ?_
          simp only [Act.put, List.setIfInBounds_toArray, List.set_cons_zero, List.set_cons_succ]
          refine tk8 (v := .pointer (some ⟨g, t * 72 + p * 4, none⟩)) (by kernel_rfl) (by kernel_rfl) (by kernel_rfl) (fun _ _ _ h => h) X.out (Or.inl ⟨by rfl, fun w hw => by go_simp; try (with_reducible rfl)⟩) ?_
          simp only [Act.put, List.setIfInBounds_toArray, List.set_cons_zero, List.set_cons_succ]
          refine tk9 (by kernel_rfl) (by kernel_rfl) (by kernel_rfl) (fun _ _ _ h => h) X.out (yieldsIf_load_mid (by rfl) _ _ rfl (g) (t * 72 + p * 4) rfl ([.int .u64 (lm N 0), .int .u64 (lm N 1), .int .u64 (lm N 2), .int .u64 (lm N 3)]) _ (fun _ hw => HR.out _ (hw.get 0 rfl)) Tryz.underlying29 rfl (by kernel_rfl)) ?_
          simp only [Act.put, List.setIfInBounds_toArray, List.set_cons_zero, List.set_cons_succ]
          refine wpAnyH_ready (rs := [3]) (by kernel_rfl) (by simp) ?_
          refine rd3 (fun K hK => ?_) AllReadyH.nil
          go_simp
          refine (C1.out w4 X.out.below).mono ?_
          rintro e w5 ⟨rfl, hb⟩
          simp only []
          replace X := hide (X.out.after hb)
          clear hb
          refine hK.out _ _ X.out (fun _ => ?_)
          clear hK K
          refine tk10 (v := .bool false) (by kernel_rfl) (by kernel_rfl) (by kernel_rfl) (fun _ _ _ h => h) X.out (Or.inl ⟨by rfl, fun w hw => by go_simp; try (with_reducible rfl)⟩) ?_
          simp only [Act.put, List.setIfInBounds_toArray, List.set_cons_zero, List.set_cons_succ]
          refine wpAnyH_done (by kernel_rfl) ?_ _
          go_wp2
          exact ⟨⟨p + 1, by omega, by simp, X.out⟩, by simp [intOf]; omega⟩
        · obtain rfl : p = 18 := by omega
          have CS := hide (fun (w1 : World) (hb : Below w.heap.size w w1) => supply_l (HB.out.below hb) (t := (t : Int)) (by omega))
          have CR := hide (fun (w1 : World) => supply13_any HTO.out hlt w1)
          have hSI := HSI.out t
          rw [HSU.out t] at CR
          obtain ⟨N, hNe⟩ : ∃ N, sup (h n) (t : Int) = N := ⟨_, rfl⟩
          rw [hNe] at CS CR hSI
          have HSN := hide hSI
          clear hNe hSI
          go_wp2
          have X : Hid (Uxs w wr.drew [(g, 288, tl T)]) := hide (X1.out.after (bMe wr).drew)
          clear X1
          refine wp_region_held_drew (S := fun w1 => Uxs w w1 [(g, 288, tl T)]) (by kernel_rfl) X.out (fun _ => ?_)
          generalize wr.drew = v0 at *
          refine tk0 (v := .pointer (some ⟨bb, 0, none⟩)) (by kernel_rfl) (by kernel_rfl) (by kernel_rfl) (fun _ _ _ h => h) X.out (Or.inl ⟨by rfl, fun w hw => by go_simp; try (with_reducible rfl)⟩) ?_
          simp only [Act.put, List.setIfInBounds_toArray, List.set_cons_zero, List.set_cons_succ]
          refine tk1 (v := .int .u8 (t : Int)) (by kernel_rfl) (by kernel_rfl) (by kernel_rfl) (fun _ _ _ h => h) X.out (Or.inl ⟨by rfl, fun w hw => by go_simp; try (with_reducible rfl)⟩) ?_
          simp only [Act.put, List.setIfInBounds_toArray, List.set_cons_zero, List.set_cons_succ]
          refine tk4 (by kernel_rfl) (by kernel_rfl) (by kernel_rfl) (fun _ _ _ h => h) X.out (yieldsIf_load_mid (by rfl) _ _ rfl (g) (0) rfl (rowU 288 (tl T)) _ (fun _ hw => (hw.get 0 rfl).range) Tryz.underlying33 rfl (info_tb _)) ?_
          simp only [Act.put, List.setIfInBounds_toArray, List.set_cons_zero, List.set_cons_succ]
          refine tk5 (v := .int .u8 (t : Int)) (by kernel_rfl) (by kernel_rfl) (by kernel_rfl) (fun _ _ _ h => h) X.out (Or.inl ⟨by rfl, fun w hw => by go_simp; try (with_reducible rfl)⟩) ?_
          simp only [Act.put, List.setIfInBounds_toArray, List.set_cons_zero, List.set_cons_succ]
          refine wpAnyH_ready (rs := [2]) (by kernel_rfl) (by simp) ?_
          refine rd2 (fun K hK => ?_) AllReadyH.nil
          go_simp
          refine ((CS.out v0 X.out.below)).mono ?_
          rintro e v1 ⟨rfl, hb⟩
          simp only []
          replace X := hide (X.out.after hb)
          clear hb
          refine hK.out _ _ X.out (fun _ => ?_)
          clear hK K
          refine wpAnyH_ready (rs := [3]) (by kernel_rfl) (by simp) ?_
          refine rd3 (fun K hK => ?_) AllReadyH.nil
          go_simp
          refine ((row_of N _ HSN.out)).mono ?_
          rintro e v2 ⟨xo, xn, xc, rfl, nx, hb⟩
          simp only []
          replace X := hide (X.out.after hb)
          have NX := hide nx
          clear nx
          clear hb
          refine hK.out _ _ X.out (fun _ => ?_)
          clear hK K
          refine wpAnyH_ready (rs := [6]) (by kernel_rfl) (by simp) ?_
          refine rd6 (fun K hK => ?_) AllReadyH.nil
          go_simp
          refine ((CR.out v2)).mono ?_
          rintro e v3 ⟨yo, yn, yc, rfl, ny, hb⟩
          simp only []
          replace X := hide (X.out.after hb)
          replace NX := hide (NX.out.below hb)
          have NY := hide ny
          clear ny
          clear hb
          refine hK.out _ _ X.out (fun _ => ?_)
          clear hK K
          refine wpAnyH_ready (rs := [7]) (by kernel_rfl) (by simp) ?_
          refine rd7 (fun K hK => ?_) AllReadyH.nil
          go_simp
          refine (cmp_same NX.out NY.out rfl).mono ?_
          rintro e w2 ⟨rfl, rfl⟩
          simp only []
          refine hK.out _ _ X.out (fun _ => ?_)
          clear hK K
          refine tk8 (v := .bool false) (by kernel_rfl) (by kernel_rfl) (by kernel_rfl) (fun _ _ _ h => h) X.out (Or.inl ⟨by rfl, fun w hw => by go_simp; try (with_reducible rfl)⟩) ?_
          simp only [Act.put, List.setIfInBounds_toArray, List.set_cons_zero, List.set_cons_succ]
          refine wpAnyH_done (by kernel_rfl) ?_ _
          go_wp2
          exact ⟨⟨t + 1, by omega, by simp, X.out⟩, by simp [intOf]; omega⟩
    · obtain rfl : t = 4 := by omega
      go_wp2
      go_ret
      exact ⟨rfl, X0.out.below⟩
end Go.Proofs.YtncnilplmklccaaGreat
