/- The contract of a tree's Cut over this translation (written by gen-treecut.py). The contract of a tree's Copy over this translation (written by gen-treecopy.py). -/
import Derived.Test.YtlkmebimgpigjaaDoorTreeAppend
/- The contract of a tree's Cut over this translation (written by gen-treecut.py). -/
namespace Go.Proofs.YtlkmebimgpigjaaDoor
open Go.RowKit Go.Lib
attribute [local go_sem] setCell_drewN alloc_drewN

theorem Rw.put_rest {w w1 w2 : World} {g : Nat} {S : Nat → Prop} {d : Nat} {M : Nat → List Hs} (h : Rw w g S d M) (hb : Below w.heap.size w w1) {k : Nat} (hk : k < 33) {v : Value} (hc : w.cell? ⟨g, k + 1, none⟩ = some v) (hg : w1.grownBy w2 v.ownBlock) (v' : Value) :
    ∀ j, j ≠ k → (w2.setCell ⟨g, k + 1, none⟩ v').cell? ⟨g, j + 1, none⟩ = w.cell? ⟨g, j + 1, none⟩ := by
  obtain ⟨v0, hc0, _, hS⟩ := h.row hk
  rw [hc] at hc0
  injection hc0 with hc0
  subst hc0
  have hgb : w2.heap[g]? = w.heap[g]? := (hg.block g (Nat.lt_of_lt_of_le h.lt hb.size) (fun e => (hS g e.symm).2 rfl)).trans (hb.block g h.lt)
  intro j hj
  have e : (w2.setCell ⟨g, k + 1, none⟩ v').cell? ⟨g, j + 1, none⟩ = w2.cell? ⟨g, j + 1, none⟩ := by simp [go_sem]
  exact e.trans (World.cell?_of_block (w := w) (a := ⟨g, j + 1, none⟩) hgb)
/-- The rows' cells as the value of an array. -/
def rowsV (V : Nat → Value) : List Value := (List.range 33).map V
theorem rowsV_length (V : Nat → Value) : (rowsV V).length = 33 := by simp [rowsV]
theorem rowsV_get (V : Nat → Value) (k : Nat) (hk : k < 33) : (rowsV V)[k]? = some (V k) := by simp [rowsV, hk]
theorem idx_rows (V : Nat → Value) (k : Nat) (hk : k < 33) (w : World) : (Instr.index 52 (.agg (rowsV V).toArray) (.int .i64 k)).run Tryd.prog w = .ok (V k) w := by
  have hz : (sizeOf 27).run Tryd.prog w = .ok 1 w := by kernel_rfl
  have ha : (isAgg 27).run Tryd.prog w = .ok false w := by kernel_rfl
  have hc : 0 ≤ (k : Int) ∧ (k : Int) < ((33 : Nat) : Int) := by omega
  unfold Instr.index
  simp only [asIntOf, Sem.run_bind, Sem.run_pure, Result.andThen_ok, run_underlying Tryd.underlying52, if_pos hc, hz]
  unfold part
  simp [ha, rowsV_get V k hk, Sem.run_pure]
theorem info_rows (V : Nat → Value) : (Tryd.prog.info? 52).map (·.size) = some (rowsV V).length := by rw [rowsV_length]; kernel_rfl
/-- The rows' cells all together. -/
theorem Rw.all {w : World} {g : Nat} {S : Nat → Prop} {d : Nat} {M : Nat → List Hs} (h : Rw w g S d M) : ∃ V : Nat → Value, w.rangeAt g 1 (rowsV V) ∧ ∀ k, k < 33 → w.cell? ⟨g, k + 1, none⟩ = some (V k) := by
  obtain ⟨_, _, _, _, _, V, hV, _⟩ := h
  refine ⟨V, fun j v hv => ?_, fun k hk => (hV k hk).1⟩
  have hj : j < 33 := by have := (List.getElem?_eq_some_iff.1 hv).1; rwa [rowsV_length] at this
  rw [rowsV_get V j hj] at hv
  injection hv with hv
  subst hv
  rw [Nat.add_comm]
  exact (hV j hj).1
theorem cut_nil {w : World} (n : Int) :
    Calls Tryd.prog 17 #[.pointer none, .int .u64 n] w fun e w' => e = .returned (.bool false) ∧ w' = w := by
  go_enter Tryd.func17, Tryd.ntmps17
  go_wp2
  go_ret
  exact ⟨rfl, rfl⟩
theorem cut_no {w : World} {g d : Nat} {S : Nat → Prop} {L : List Hs} (h : Tr w g S d L) (n : Int) (hn : (L.length : Int) < n) :
    Calls Tryd.prog 17 #[.pointer (some ⟨g, 0, none⟩), .int .u64 n] w fun e w' => e = .returned (.bool false) ∧ w' = w := by
  have H := hide h
  have hfew := h.few
  clear h
  go_enter Tryd.func17, Tryd.ntmps17
  go_wp2_with (go_at_call 18; refine (len_any H.out.box (by rw [lv_zero]; omega)).mono ?_; rintro e w' ⟨rfl, rfl⟩; rw [lv_zero])
  go_ret
  exact ⟨rfl, rfl⟩
/-- The rows below a level are cut, the others not yet. -/
def mixc (L : List Hs) (n l : Nat) : Nat → List Hs := fun k => lv (if k < l then L.take n else L) k
theorem mixc_at (L : List Hs) (n l : Nat) : mixc L n l l = lv L l := by unfold mixc; rw [if_neg (Nat.lt_irrefl _)]
theorem mixc_next (L : List Hs) (n l : Nat) (hn : n ≤ L.length) : upd (mixc L n l) l ((lv L l).take (n / 2 ^ l)) = mixc L n (l + 1) := by
  funext k
  unfold upd
  by_cases e : k = l
  · subst e
    rw [if_pos rfl, ← lv_take L n k hn]
    unfold mixc
    rw [if_pos (by omega)]
  · rw [if_neg e]
    unfold mixc
    by_cases e2 : k < l
    · rw [if_pos e2, if_pos (by omega)]
    · rw [if_neg e2, if_neg (by omega)]
set_option maxRecDepth 100000 in
set_option maxHeartbeats 8000000 in
theorem cut_any {w : World} {g d : Nat} {S : Nat → Prop} {L : List Hs} (h : Tr w g S d L) (n : Nat) (hn : n ≤ L.length) :
    Calls Tryd.prog 17 #[.pointer (some ⟨g, 0, none⟩), .int .u64 n] w fun e w' => e = .returned (.bool true) ∧ ∃ S', Tr w' g S' d (L.take n) ∧ Mv S S' w w' := by
  have H := hide h
  have hfew := h.few
  have hni : (n : Int) ≤ (L.length : Int) := by omega
  have hn1 : (n : Int) ≤ 1000 := by omega
  obtain ⟨V, hr, hV⟩ := h.box.all
  have HR0 := hide hr; have HVS := hide hV
  clear h hr hV
  have ix := fun (k : Nat) (hk : k < 33) (w : World) => idx_rows V k hk w
  go_enter Tryd.func17, Tryd.ntmps17
  go_wp2_with (first
    | (go_at_call 18; refine (len_any H.out.box (by rw [lv_zero]; omega)).mono ?_; rintro e w' ⟨rfl, hw'⟩; have hw2 := hw'.symm; clear hw'; subst hw2; rw [lv_zero])
    | refine wpList_load_mid rfl 52 _ rfl g 1 rfl (rowsV V) _ HR0.out Tryd.underlying52 rfl (info_rows V) ?_)
  go_loopg [5, 6, 19] 33 (fun gk t5 t6 t wr => ∃ k : Nat, gk + k = 33 ∧ t = .int .i64 k ∧ (∀ j, k ≤ j → j < 33 → wr.cell? ⟨g, j + 1, none⟩ = some (V j)) ∧ ∃ S', Rw wr g S' d (mixc L n k) ∧ Mv S S' w wr)
  case atStart => exact ⟨0, by omega, rfl, fun j _ hj => HVS.out j hj, S, H.out.box.congr (fun k _ => by unfold mixc; rw [if_neg (by omega)]), Mv.refl _ _⟩
  case round =>
    obtain ⟨k, hk0, rfl, hcs, S1, hb1, hm1⟩ := hrel
    have HB := hide hb1; have HM := hide hm1; have HK := hide hk0; have HCS := hide hcs
    clear hb1 hm1 hk0 hcs
    by_cases hlt : k < 33
    · have hki : (k : Int) < 33 := by omega
      have hki32 : (k : Int) ≤ 32 := by omega
      have HK33 := hide hlt
      have ixk := fun (w : World) => idx_rows V k hlt w
      have HCW : Hid (wr.cell? ⟨g, k + 1, none⟩ = some (V k)) := HCS.out k (Nat.le_refl _) hlt
      obtain ⟨v, hcw, hv, hsv⟩ := HB.out.row hlt
      rw [HCW.out] at hcw
      injection hcw with hcw
      rw [mixc_at, ← hcw] at hv
      obtain ⟨ao, cap, hvk, -, -, -, -⟩ := hv.form
      obtain ⟨q, hq⟩ : ∃ q, n / 2 ^ k = q := ⟨_, rfl⟩
      have hdq : (n : Int) / 2 ^ k = (q : Int) := by rw [← hq]; simp
      have hq1 : q ≤ n := by rw [← hq]; exact Nat.div_le_self _ _
      have hqi : (q : Int) ≤ 1000 := by omega
      have hwq : IntKind.i64.wrap (q : Int) = (q : Int) := by rw [IntKind.wrap_i64]; omega
      have hqm : q ≤ (lv L k).length := by rw [lv_length, ← hq]; exact Nat.div_le_div_right hn
      have hm1000 : (lv L k).length ≤ 1000 := by rw [lv_length]; have := Nat.div_le_self L.length (2 ^ k); omega
      have HM2 : Hid (upd (mixc L n k) k ((lv L k).take q) = mixc L n (k + 1)) := by rw [← hq]; exact mixc_next L n k hn
      have HN2 : Hid (((lv L k).take q).length = q) := by show _ = _; rw [List.length_take]; omega
      have HDEL := hide (fun (ww : World) (hh : HR ww (.slice ao (lv L k).length cap) (lv L k)) => delete_any hh (by omega) q hqm)
      rw [hvk] at hv HCW
      have HV := hide hv
      have hmi : ((lv L k).length : Int) ≤ 1000 := by omega
      clear hv hsv hcw hq hq1 hqm hm1000 hlt ix
      generalize hmm : (lv L k).length = m at *
      go_wp2_with fail
      have X : Hid True := trivial
      refine wp_region_held_drew (S := fun _ => True) (by kernel_rfl) X.out (fun _ => ?_)
      refine tk0 (v := .pointer (some ⟨g, 0, none⟩)) (by kernel_rfl) (by kernel_rfl) (by kernel_rfl) (fun _ _ _ h => h) X.out (Or.inl ⟨by rfl, fun w hw => by go_simp; try (with_reducible rfl)⟩) ?_
      simp only [Act.put, List.setIfInBounds_toArray, List.set_cons_zero, List.set_cons_succ]
      refine tk1 (v := .int .i64 (k : Int)) (by kernel_rfl) (by kernel_rfl) (by kernel_rfl) (fun _ _ _ h => h) X.out (Or.inl ⟨by rfl, fun w hw => by go_simp; try (with_reducible rfl)⟩) ?_
      simp only [Act.put, List.setIfInBounds_toArray, List.set_cons_zero, List.set_cons_succ]
      refine tk2 (v := .slice ao m cap) (by kernel_rfl) (by kernel_rfl) (by kernel_rfl) (fun _ _ _ h => h) X.out (Or.inl ⟨by rfl, fun w hw => by go_simp; try (with_reducible rfl)⟩) ?_
      simp only [Act.put, List.setIfInBounds_toArray, List.set_cons_zero, List.set_cons_succ]
      refine tk3 (v := .int .u64 (n : Int)) (by kernel_rfl) (by kernel_rfl) (by kernel_rfl) (fun _ _ _ h => h) X.out (Or.inl ⟨by rfl, fun w hw => by go_simp; try (with_reducible rfl)⟩) ?_
      simp only [Act.put, List.setIfInBounds_toArray, List.set_cons_zero, List.set_cons_succ]
      refine tk4 (v := .int .i64 (k : Int)) (by kernel_rfl) (by kernel_rfl) (by kernel_rfl) (fun _ _ _ h => h) X.out (Or.inl ⟨by rfl, fun w hw => by go_simp; try (with_reducible rfl)⟩) ?_
      simp only [Act.put, List.setIfInBounds_toArray, List.set_cons_zero, List.set_cons_succ]
      refine tk5 (v := .int .u64 (q : Int)) (by kernel_rfl) (by kernel_rfl) (by kernel_rfl) (fun _ _ _ h => h) X.out (Or.inl ⟨by rfl, fun w hw => by go_simp; try (with_reducible rfl)⟩) ?_
      simp only [Act.put, List.setIfInBounds_toArray, List.set_cons_zero, List.set_cons_succ]
      refine tk6 (v := .int .i64 (q : Int)) (by kernel_rfl) (by kernel_rfl) (by kernel_rfl) (fun _ _ _ h => h) X.out (Or.inl ⟨by rfl, fun w hw => by go_simp; try (with_reducible rfl)⟩) ?_
      simp only [Act.put, List.setIfInBounds_toArray, List.set_cons_zero, List.set_cons_succ]
      refine tk7 (v := .slice ao m cap) (by kernel_rfl) (by kernel_rfl) (by kernel_rfl) (fun _ _ _ h => h) X.out (Or.inl ⟨by rfl, fun w hw => by go_simp; try (with_reducible rfl)⟩) ?_
      simp only [Act.put, List.setIfInBounds_toArray, List.set_cons_zero, List.set_cons_succ]
      refine tk8 (v := .int .i64 (m : Int)) (by kernel_rfl) (by kernel_rfl) (by kernel_rfl) (fun _ _ _ h => h) X.out (Or.inl ⟨by rfl, fun w hw => by go_simp; try (with_reducible rfl)⟩) ?_
      simp only [Act.put, List.setIfInBounds_toArray, List.set_cons_zero, List.set_cons_succ]
      refine tk10 (v := .pointer (some ⟨g, 0, none⟩)) (by kernel_rfl) (by kernel_rfl) (by kernel_rfl) (fun _ _ _ h => h) X.out (Or.inl ⟨by rfl, fun w hw => by go_simp; try (with_reducible rfl)⟩) ?_
      simp only [Act.put, List.setIfInBounds_toArray, List.set_cons_zero, List.set_cons_succ]
      refine tk11 (v := .pointer (some ⟨g, 1, none⟩)) (by kernel_rfl) (by kernel_rfl) (by kernel_rfl) (fun _ _ _ h => h) X.out (Or.inl ⟨by rfl, fun w hw => by go_simp; try (with_reducible rfl)⟩) ?_
      simp only [Act.put, List.setIfInBounds_toArray, List.set_cons_zero, List.set_cons_succ]
      refine wpAnyH_ready (rs := [9]) (by kernel_rfl) (by simp) ?_
      refine rd9 (fun K hK => ?_) AllReadyH.nil
      go_simp
      refine (HDEL.out wr.drew (HV.out.below (bMe wr).drew)).mono ?_
      rintro e9 w3 ⟨v3, rfl, hv3, hg3, ho3⟩
      simp only []
      refine hK.out _ _ trivial (fun _ => ?_)
      clear hK K
      obtain ⟨p1, p2, S3, p3, p4⟩ := HB.out.put (k := k) (bMe wr).drew HK33.out HCW.out hv3 hg3 (fun b hb => .inl (by rw [← ho3]; exact hb))
      have p5 := HB.out.put_rest (k := k) (bMe wr).drew HK33.out HCW.out hg3 v3
      obtain ⟨ao3, cap3, rfl, -, -, -, -⟩ := hv3.form
      rw [Nat.add_comm k 1] at p1 p2 p3 p4 p5
      rw [HM2.out] at p3
      rw [HN2.out] at p3 p4 p5
      rw [HN2.out]
      have HP3 := hide p3; have HP4 := hide p4; have HP5 := hide p5
      clear p3 p4 p5 hg3 ho3 hv3
      refine tk12 (v := .pointer (some ⟨g, 1 + k, none⟩)) (by kernel_rfl) (by kernel_rfl) (by kernel_rfl) (fun _ _ _ h => h) X.out (Or.inl ⟨by rfl, fun w hw => by go_simp; try (with_reducible rfl)⟩) ?_
      simp only [Act.put, List.setIfInBounds_toArray, List.set_cons_zero, List.set_cons_succ]
      refine wpAnyH_ready (rs := [13]) (by kernel_rfl) (by simp) ?_
      refine rd13 (fun K hK => ?_) AllReadyH.nil
      go_simp
      refine hK.out _ _ trivial (fun _ => ?_)
      clear hK K p1 p2
      refine wpAnyH_done (by kernel_rfl) ?_ _
      try simp only [Act.put]
      generalize w3.setCell ⟨g, 1 + k, none⟩ (.slice ao3 q cap3) = w5 at *
      go_wp2
      go_roundg (33 - k - 1)
      case measure => have := HK.out; have := HK33.out; omega
      case rel => exact ⟨k + 1, by omega, by go_num, fun j h1 h2 => (HP5.out j (by omega)).trans (HCS.out j (by omega) h2), S3, HP3.out, HM.out.trans HP4.out⟩
    · obtain rfl : k = 33 := by have := HK.out; omega
      have T : Hid (Tr wr g S1 d (L.take n)) := ⟨H.out.dep, by rw [List.length_take]; have := H.out.len; omega, by rw [List.length_take]; omega, fun f hf => H.out.ok f (List.mem_of_mem_take hf), HB.out.congr (fun j hj => by unfold mixc; rw [if_pos hj])⟩
      go_wp2
      go_ret
      exact ⟨rfl, S1, T.out, HM.out⟩
end Go.Proofs.YtlkmebimgpigjaaDoor

/- The contract of a tree's Copy over this translation (written by gen-treecopy.py). -/
namespace Go.Proofs.YtlkmebimgpigjaaDoor
open Go.RowKit Go.Lib
attribute [local go_sem] setCell_drewN alloc_drewN

theorem copy_nil {w : World} :
    Calls Tryd.prog 20 #[.pointer none] w fun e w' => e = .returned (.pointer none) ∧ w' = w := by
  go_enter Tryd.func20, Tryd.ntmps20
  go_wp2
  go_ret
  exact ⟨rfl, rfl⟩
/-- The rows below a level are there, the others not yet. -/
def mixe (L : List Hs) (l : Nat) : Nat → List Hs := fun k => if k < l then lv L k else []
theorem mixe_next (L : List Hs) (l : Nat) : upd (mixe L l) l (lv L l) = mixe L (l + 1) := by
  funext k
  unfold upd mixe
  by_cases e : k = l
  · subst e
    rw [if_pos rfl, if_pos (by omega)]
  · rw [if_neg e]
    by_cases e2 : k < l
    · rw [if_pos e2, if_pos (by omega)]
    · rw [if_neg e2, if_neg (by omega)]
set_option maxRecDepth 100000 in
set_option maxHeartbeats 8000000 in
theorem copy_any {w : World} {g d : Nat} {S : Nat → Prop} {L : List Hs} (h : Tr w g S d L) :
    Calls Tryd.prog 20 #[.pointer (some ⟨g, 0, none⟩)] w fun e w' => ∃ g2 S2, e = .returned (.pointer (some ⟨g2, 0, none⟩)) ∧ Tr w' g2 S2 d L ∧ Below w.heap.size w w' ∧ ∀ b, S2 b → w.heap.size ≤ b := by
  have H := hide h
  have c0 := h.box.c0
  have hfew := h.few
  have HD := hide h.dep
  clear h
  go_enter Tryd.func20, Tryd.ntmps20
  go_wp2_with fail
  refine (tnew_any d HD.out).mono ?_
  rintro e w1 ⟨rfl, hbox, hb⟩
  have B := hide hb
  have BV := hide hb
  have N := hide hbox
  obtain ⟨V, hr, hV⟩ := (H.out.box.below hb).all
  have HR0 := hide hr; have HVS := hide hV
  clear hb hbox hr hV c0
  go_wp2_with (refine wpList_load_mid rfl 52 _ rfl g 1 rfl (rowsV V) _ HR0.out Tryd.underlying52 rfl (info_rows V) ?_)
  go_loopg [4, 5, 17] 33 (fun gk t4 t5 t wr => ∃ k : Nat, gk + k = 33 ∧ t = .int .i64 k ∧ Below w.heap.size w wr ∧ ∃ S', Rw wr w.heap.size S' d (mixe L k) ∧ ∀ b, S' b → w.heap.size ≤ b)
  case atStart => exact ⟨0, by omega, rfl, B.out, _, N.out.congr (fun k _ => by unfold mixe; rw [if_neg (by omega)]), fun b hb => by rw [hb]; exact Nat.le_refl _⟩
  case round =>
    obtain ⟨k, hk0, rfl, hb1, S1, hx1, hs1⟩ := hrel
    have BB := hide hb1; have HB := hide hx1; have HS := hide hs1; have HK := hide hk0
    clear hk0 hb1 hx1 hs1 N B
    by_cases hlt : k < 33
    · have hki : (k : Int) < 33 := by omega
      have hki32 : (k : Int) ≤ 32 := by omega
      have HK33 := hide hlt
      have ixk := fun (w : World) => idx_rows V k hlt w
      obtain ⟨v0, hc0, _, _⟩ := HB.out.row hlt
      have HC0 := hide hc0
      obtain ⟨v, hcw, hv, hsv⟩ := H.out.box.row hlt
      have hvk : v = V k := by
        have e1 := HVS.out k hlt
        have e2 := (BV.out.cell (p := ⟨g, k + 1, none⟩) H.out.box.lt).trans hcw
        rw [e1] at e2
        injection e2 with e2
        exact e2.symm
      rw [hvk] at hv
      have HV := hide (hv.below BB.out)
      have HLL : Hid ((lv L k).length ≤ 1000000) := by show _ ≤ _; rw [lv_length]; have := Nat.div_le_self L.length (2 ^ k); omega
      have HM2 := hide (mixe_next L k)
      clear hv hcw hsv hvk hc0 hlt
      go_wp2_with fail
      have X : Hid True := trivial
      refine wp_region_held_drew (S := fun _ => True) (by kernel_rfl) X.out (fun _ => ?_)
      refine tk0 (v := .pointer (some ⟨w.heap.size, 0, none⟩)) (by kernel_rfl) (by kernel_rfl) (by kernel_rfl) (fun _ _ _ h => h) X.out (Or.inl ⟨by rfl, fun w hw => by go_simp; try (with_reducible rfl)⟩) ?_
      simp only [Act.put, List.setIfInBounds_toArray, List.set_cons_zero, List.set_cons_succ]
      refine tk1 (v := .int .i64 (k : Int)) (by kernel_rfl) (by kernel_rfl) (by kernel_rfl) (fun _ _ _ h => h) X.out (Or.inl ⟨by rfl, fun w hw => by go_simp; try (with_reducible rfl)⟩) ?_
      simp only [Act.put, List.setIfInBounds_toArray, List.set_cons_zero, List.set_cons_succ]
      refine tk2 (v := V k) (by kernel_rfl) (by kernel_rfl) (by kernel_rfl) (fun _ _ _ h => h) X.out (Or.inl ⟨by rfl, fun w hw => by go_simp; try (with_reducible rfl)⟩) ?_
      simp only [Act.put, List.setIfInBounds_toArray, List.set_cons_zero, List.set_cons_succ]
      refine tk4 (v := .pointer (some ⟨w.heap.size, 0, none⟩)) (by kernel_rfl) (by kernel_rfl) (by kernel_rfl) (fun _ _ _ h => h) X.out (Or.inl ⟨by rfl, fun w hw => by go_simp; try (with_reducible rfl)⟩) ?_
      simp only [Act.put, List.setIfInBounds_toArray, List.set_cons_zero, List.set_cons_succ]
      refine tk5 (v := .pointer (some ⟨w.heap.size, 1, none⟩)) (by kernel_rfl) (by kernel_rfl) (by kernel_rfl) (fun _ _ _ h => h) X.out (Or.inl ⟨by rfl, fun w hw => by go_simp; try (with_reducible rfl)⟩) ?_
      simp only [Act.put, List.setIfInBounds_toArray, List.set_cons_zero, List.set_cons_succ]
      refine wpAnyH_ready (rs := [3]) (by kernel_rfl) (by simp) ?_
      refine rd3 (fun K hK => ?_) AllReadyH.nil
      go_simp
      refine (clone_any (HV.out.below (bMe wr).drew) HLL.out).mono ?_
      rintro e9 w3 ⟨v3, rfl, hv3, hb3, ho3⟩
      simp only []
      refine hK.out _ _ trivial (fun _ => ?_)
      clear hK K
      have hg3 : wr.drew.grownBy w3 v0.ownBlock := ⟨hb3.os, hb3.tape, hb3.output, hb3.size, fun b hb _ => hb3.block b hb⟩
      obtain ⟨p1, p2, S3, p3, p4⟩ := HB.out.put (k := k) (bMe wr).drew HK33.out HC0.out hv3 hg3 (fun b hb => .inr (ho3 b hb))
      obtain ⟨ao3, cap3, rfl, -, -, -, -⟩ := hv3.form
      rw [Nat.add_comm k 1] at p1 p2 p3 p4
      rw [HM2.out] at p3
      have HP3 := hide p3; have HP4 := hide p4
      clear p3 p4 hg3 ho3 hv3 hb3
      refine tk6 (v := .pointer (some ⟨w.heap.size, 1 + k, none⟩)) (by kernel_rfl) (by kernel_rfl) (by kernel_rfl) (fun _ _ _ h => h) X.out (Or.inl ⟨by rfl, fun w hw => by go_simp; try (with_reducible rfl)⟩) ?_
      simp only [Act.put, List.setIfInBounds_toArray, List.set_cons_zero, List.set_cons_succ]
      refine wpAnyH_ready (rs := [7]) (by kernel_rfl) (by simp) ?_
      refine rd7 (fun K hK => ?_) AllReadyH.nil
      go_simp
      refine hK.out _ _ trivial (fun _ => ?_)
      clear hK K p1 p2
      refine wpAnyH_done (by kernel_rfl) ?_ _
      try simp only [Act.put]
      generalize w3.setCell ⟨w.heap.size, 1 + k, none⟩ (.slice ao3 (lv L k).length cap3) = w5 at *
      go_wp2
      go_roundg (33 - k - 1)
      case measure => have := HK.out; have := HK33.out; omega
      case rel => exact ⟨k + 1, by omega, by go_num, HP4.out.below BB.out HS.out, S3, HP3.out, fun b hb => by
        rcases HP4.out.own b hb with e | e
        · exact HS.out b e
        · exact Nat.le_trans BB.out.size e⟩
    · obtain rfl : k = 33 := by have := HK.out; omega
      have T : Hid (Tr wr w.heap.size S1 d L) := ⟨H.out.dep, H.out.len, H.out.few, H.out.ok, HB.out.congr (fun j hj => by unfold mixe; rw [if_pos hj])⟩
      go_wp2
      go_ret
      exact ⟨_, S1, rfl, T.out, BB.out, HS.out⟩
end Go.Proofs.YtlkmebimgpigjaaDoor
