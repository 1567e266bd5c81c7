/- Equality of sums (rows of 32 bytes) over this translation. The contract of sponsionlaw10.lives over this translation (written by gen-treelives.py). -/
import Derived.Test.YtlkmebimgpigjaaDoorBRow
import Derived.Test.YtlkmebimgpigjaaDoorTreeCopy
/- Equality of sums (rows of 32 bytes) over this translation. -/
namespace Go.Proofs.YtlkmebimgpigjaaDoor
open Go.RowKit Go.Lib

/-- Are two sums alike? -/
def sameH (f f' : Nat → Int) : Bool := (List.range 32).all fun j => f j == f' j
theorem sameH_self (f : Nat → Int) : sameH f f = true := by unfold sameH; simp
theorem sameH_iff (f f' : Nat → Int) : sameH f f' = true ↔ ∀ j, j < 32 → f j = f' j := by
  unfold sameH; simp [List.all_eq_true]
theorem part_byte (f : Nat → Int) (i : Nat) (hi : i < 32) (w : World) : (part 5 (rowV 32 f).toArray (i * 1)).run Tryd.prog w = .ok (.int .u8 (f i)) w := by
  have ha : (isAgg 5).run Tryd.prog w = .ok false w := by kernel_rfl
  unfold part
  simp [ha, rowV_get hi, Sem.run_pure]
theorem eq_byte (a b : Int) (d : Nat) (w : World) : (Op.equalIn (d + 1) 5 (.int .u8 a) (.int .u8 b)).run Tryd.prog w = .ok (a == b) w := by
  rw [Op.equalIn]
  simp [run_underlying Tryd.underlying5]
theorem hash_loop (f f' : Nat → Int) (w : World) : ∀ is : List Nat, (∀ i ∈ is, i < 32) →
    (forIn is ((none : Option Bool), ()) fun i __s => do
      let __do_lift ← part 5 (rowV 32 f).toArray (i * 1)
      let __do_lift_1 ← part 5 (rowV 32 f').toArray (i * 1)
      let __do_lift ← Op.equalIn 9999 5 __do_lift __do_lift_1
      if (!__do_lift) = true then pure (ForInStep.done (some false, ())) else pure (ForInStep.yield (none, ()))).run Tryd.prog w =
    .ok (if is.all (fun j => f j == f' j) then (none, ()) else (some false, ())) w
  | [], _ => by simp [Sem.run_pure]
  | i :: r, h => by
    have hi := h i (by simp)
    simp only [List.forIn_cons, Sem.run_bind, part_byte _ i hi, Result.andThen_ok, eq_byte _ _ 9998]
    by_cases e : f i = f' i
    · simp only [e, beq_self_eq_true, Bool.not_true, Bool.false_eq_true, if_false, Sem.run_pure, Result.andThen_ok, List.all_cons, Bool.true_and]
      exact hash_loop f f' w r (fun j hj => h j (by simp [hj]))
    · have eb : (f i == f' i) = false := by simpa using e
      simp only [eb, Bool.not_false, if_true, Sem.run_pure, Result.andThen_ok, List.all_cons, Bool.false_and, Bool.false_eq_true, if_false]
theorem eqHash (f f' : Nat → Int) (w : World) : (Op.equalIn 10000 32 (.agg (rowV 32 f).toArray) (.agg (rowV 32 f').toArray)).run Tryd.prog w = .ok (sameH f f') w := by
  have hz : (sizeOf 5).run Tryd.prog w = .ok 1 w := by kernel_rfl
  rw [show (10000 : Nat) = 9999 + 1 from rfl, Op.equalIn]
  simp only [Sem.run_bind, run_underlying Tryd.underlying32, Result.andThen_ok, hz]
  simp only [Std.Legacy.Range.forIn_eq_forIn_range', Std.Legacy.Range.size, Nat.sub_zero, Nat.add_sub_cancel, Nat.div_one]
  rw [hash_loop f f' w _ (fun i hi => by have := List.mem_range'.1 hi; omega)]
  rw [show (List.range' 0 32).all (fun j => f j == f' j) = sameH f f' by unfold sameH; rw [List.range_eq_range']]
  cases sameH f f' <;> simp [Sem.run_pure]
end Go.Proofs.YtlkmebimgpigjaaDoor

/- The contract of sponsionlaw10.lives over this translation (written by gen-treelives.py). -/
namespace Go.Proofs.YtlkmebimgpigjaaDoor
open Go.RowKit Go.Lib
attribute [local go_sem] setCell_drewN alloc_drewN eqHash sameH_self

/-- The example's leaf. -/
def a1 : Hs := fun j => if j = 0 then 1 else 0
theorem a1_ok : Hok a1 := fun j => by unfold a1; split <;> omega
/-- What stands while the example is looked at. -/
structure LX (w0 : World) (g ga : Nat) (S : Nat → Prop) (w : World) : Prop where
  box : BRow w ga 32 a1
  tree : Tr w g S 1 [a1]
  below : Below w0.heap.size w0 w
theorem LX.after {w0 w w' : World} {g ga : Nat} {S : Nat → Prop} (h : LX w0 g ga S w) (hb : Below w.heap.size w w') : LX w0 g ga S w' := ⟨h.box.after hb rfl, h.tree.below hb, bOn h.below hb⟩
set_option maxRecDepth 100000 in
set_option maxHeartbeats 8000000 in
theorem lives10_any {w : World} (ht : Tab w 1) :
    Calls Tryd.prog 7 #[] w fun e w' => e = .returned (.bool true) ∧ Below w.heap.size w w' := by
  have HT := hide ht
  clear ht
  go_enter Tryd.func7, Tryd.ntmps7
  go_wp2_with fail
  refine (tnew_any 1 (by omega)).mono ?_
  rintro e w1 ⟨rfl, hbox, hb⟩
  have T := hide (Tr.new (by omega) hbox)
  have B := hide hb
  have HLT : Hid (w.heap.size < w1.heap.size) := hbox.lt
  clear hbox hb
  have R2 := hide (BRow.zeros32 w1 (g := w1.heap.size) rfl)
  replace T := hide (T.out.below (bAl (o := (.cells #[.int .u8 0, .int .u8 0, .int .u8 0, .int .u8 0, .int .u8 0, .int .u8 0, .int .u8 0, .int .u8 0, .int .u8 0, .int .u8 0, .int .u8 0, .int .u8 0, .int .u8 0, .int .u8 0, .int .u8 0, .int .u8 0, .int .u8 0, .int .u8 0, .int .u8 0, .int .u8 0, .int .u8 0, .int .u8 0, .int .u8 0, .int .u8 0, .int .u8 0, .int .u8 0, .int .u8 0, .int .u8 0, .int .u8 0, .int .u8 0, .int .u8 0, .int .u8 0] 32)) (bMe w1)))
  replace B := hide (bAl (o := (.cells #[.int .u8 0, .int .u8 0, .int .u8 0, .int .u8 0, .int .u8 0, .int .u8 0, .int .u8 0, .int .u8 0, .int .u8 0, .int .u8 0, .int .u8 0, .int .u8 0, .int .u8 0, .int .u8 0, .int .u8 0, .int .u8 0, .int .u8 0, .int .u8 0, .int .u8 0, .int .u8 0, .int .u8 0, .int .u8 0, .int .u8 0, .int .u8 0, .int .u8 0, .int .u8 0, .int .u8 0, .int .u8 0, .int .u8 0, .int .u8 0, .int .u8 0, .int .u8 0] 32)) B.out)
  go_wp2_with (refine wpList_store_stop rfl 32 _ _ rfl w1.heap.size 0 (rowV 32 a1) rfl rfl (R2.out.thereA a1) (info_hash32A a1) (rowV_oneA _ _) ?_)
  intro w2 hw2
  have E : Hid (BRow w2 w1.heap.size 32 a1 ∧ Tr w2 w.heap.size (fun b => b = w.heap.size) 1 [] ∧ Below w.heap.size w w2) := by
    show _ ∧ _ ∧ _
    rw [hw2.out]
    exact ⟨R2.out.stored a1, T.out.of (by rw [setCells_size]; exact Nat.le_refl _) (fun k hk => setCells_block _ _ _ _ _ (by have := HLT.out; omega)), setCells_below B.out (by have := HLT.out; omega) _ _⟩
  clear hw2 R2 T B
  generalize w1.heap.size = ga at *
  go_wp2_with (refine wpList_load_mid rfl 32 _ rfl ga 0 rfl (rowV 32 a1) _ E.out.1.range Tryd.underlying32 rfl (info_hash32 _) ?_)
  refine (append_any E.out.2.1 a1 a1_ok (by simp) (by simp) HT.out E.out.2.2 (fun k hk => by rw [hk]; exact Nat.le_refl _)).mono ?_
  rintro e w3 ⟨rfl, S1, hT, hM⟩
  have X0 : Hid (LX w w.heap.size ga S1 w3) := ⟨E.out.1.of hM.size (hM.block _ E.out.1.lt (fun e => by have := HLT.out; omega)), hT, hM.below E.out.2.2 (fun k hk => by rw [hk]; exact Nat.le_refl _)⟩
  clear hT hM E
  obtain ⟨D0, hD0⟩ : ∃ D, demp 0 = D := ⟨_, rfl⟩
  have HD0 := hide hD0
  have HDO : Hid (Hok D0) := by rw [← hD0]; exact demp_ok 0
  obtain ⟨N, hN⟩ : ∃ N, dnode a1 D0 = N := ⟨_, rfl⟩
  have HNR := hide hN
  have HRT : Hid (tn [a1] 1 0 = N) := by show _ = _; rw [← hN, ← hD0]; rfl
  clear hD0 hN
  go_wp2_with fail
  have X : Hid (LX w w.heap.size ga S1 w3.drew) := X0.out.after (bMe w3).drew
  refine wp_region_held_drew (S := LX w w.heap.size ga S1) (by kernel_rfl) X.out (fun _ => ?_)
  refine tk0 (v := .pointer (some ⟨w.heap.size, 0, none⟩)) (by kernel_rfl) (by kernel_rfl) (by kernel_rfl) (fun _ _ _ h => h) X.out (Or.inl ⟨by rfl, fun w hw => by go_simp; try (with_reducible rfl)⟩) ?_
  simp only [Act.put, List.setIfInBounds_toArray, List.set_cons_zero, List.set_cons_succ]
  refine tk1 (v := .bool true) (by kernel_rfl) (by kernel_rfl) (by kernel_rfl) (fun _ _ _ h => h) X.out (Or.inl ⟨by rfl, fun w hw => by go_simp; try (with_reducible rfl)⟩) ?_
  simp only [Act.put, List.setIfInBounds_toArray, List.set_cons_zero, List.set_cons_succ]
  refine tk2 (v := .bool true) (by kernel_rfl) (by kernel_rfl) (by kernel_rfl) (fun _ _ _ h => h) X.out (Or.inl ⟨by rfl, fun w hw => by go_simp; try (with_reducible rfl)⟩) ?_
  simp only [Act.put, List.setIfInBounds_toArray, List.set_cons_zero, List.set_cons_succ]
  refine tk3 (v := .int .i64 0) (by kernel_rfl) (by kernel_rfl) (by kernel_rfl) (fun _ _ _ h => h) X.out (Or.inl ⟨by rfl, fun w hw => by go_simp; try (with_reducible rfl)⟩) ?_
  simp only [Act.put, List.setIfInBounds_toArray, List.set_cons_zero, List.set_cons_succ]
  refine tk4 (v := .bool true) (by kernel_rfl) (by kernel_rfl) (by kernel_rfl) (fun _ _ _ h => h) X.out (Or.inl ⟨by rfl, fun w hw => by go_simp; try (with_reducible rfl)⟩) ?_
  simp only [Act.put, List.setIfInBounds_toArray, List.set_cons_zero, List.set_cons_succ]
  refine tk5 (v := .bool true) (by kernel_rfl) (by kernel_rfl) (by kernel_rfl) (fun _ _ _ h => h) X.out (Or.inl ⟨by rfl, fun w hw => by go_simp; try (with_reducible rfl)⟩) ?_
  simp only [Act.put, List.setIfInBounds_toArray, List.set_cons_zero, List.set_cons_succ]
  refine tk6 (v := .bool true) (by kernel_rfl) (by kernel_rfl) (by kernel_rfl) (fun _ _ _ h => h) X.out (Or.inl ⟨by rfl, fun w hw => by go_simp; try (with_reducible rfl)⟩) ?_
  simp only [Act.put, List.setIfInBounds_toArray, List.set_cons_zero, List.set_cons_succ]
  refine tk7 (v := .pointer (some ⟨w.heap.size, 0, none⟩)) (by kernel_rfl) (by kernel_rfl) (by kernel_rfl) (fun _ _ _ h => h) X.out (Or.inl ⟨by rfl, fun w hw => by go_simp; try (with_reducible rfl)⟩) ?_
  simp only [Act.put, List.setIfInBounds_toArray, List.set_cons_zero, List.set_cons_succ]
  refine wpAnyH_ready (rs := [8]) (by kernel_rfl) (by simp) ?_
  refine rd8 (fun K hK => ?_) AllReadyH.nil
  go_simp
  refine (len_any X.out.tree.box (by rw [lv_zero]; simp)).mono ?_
  rintro e9 w9 ⟨rfl, hw9⟩
  have hw8 := hw9.symm
  clear hw9
  subst hw8
  simp only []
  refine hK.out _ _ X.out (fun _ => ?_)
  clear hK K
  rw [lv_zero]
  refine tk9 (v := .bool true) (by kernel_rfl) (by kernel_rfl) (by kernel_rfl) (fun _ _ _ h => h) X.out (Or.inl ⟨by rfl, fun w hw => by go_simp; try (with_reducible rfl)⟩) ?_
  simp only [Act.put, List.setIfInBounds_toArray, List.set_cons_zero, List.set_cons_succ]
  refine tk10 (v := .bool true) (by kernel_rfl) (by kernel_rfl) (by kernel_rfl) (fun _ _ _ h => h) X.out (Or.inl ⟨by rfl, fun w hw => by go_simp; try (with_reducible rfl)⟩) ?_
  simp only [Act.put, List.setIfInBounds_toArray, List.set_cons_zero, List.set_cons_succ]
  refine tk11 (v := .bool true) (by kernel_rfl) (by kernel_rfl) (by kernel_rfl) (fun _ _ _ h => h) X.out (Or.inl ⟨by rfl, fun w hw => by go_simp; try (with_reducible rfl)⟩) ?_
  simp only [Act.put, List.setIfInBounds_toArray, List.set_cons_zero, List.set_cons_succ]
  refine tk12 (v := .pointer (some ⟨w.heap.size, 0, none⟩)) (by kernel_rfl) (by kernel_rfl) (by kernel_rfl) (fun _ _ _ h => h) X.out (Or.inl ⟨by rfl, fun w hw => by go_simp; try (with_reducible rfl)⟩) ?_
  simp only [Act.put, List.setIfInBounds_toArray, List.set_cons_zero, List.set_cons_succ]
  refine tk14 (by kernel_rfl) (by kernel_rfl) (by kernel_rfl) (fun _ _ _ h => h) X.out (yieldsIf_load_mid (by rfl) _ _ rfl ga (0) rfl (rowV 32 a1) _ (fun _ hw => hw.box.range) Tryd.underlying32 rfl (info_hash32 _)) ?_
  simp only [Act.put, List.setIfInBounds_toArray, List.set_cons_zero, List.set_cons_succ]
  refine wpAnyH_ready (rs := [13]) (by kernel_rfl) (by simp) ?_
  refine rd13 (fun K hK => ?_) AllReadyH.nil
  go_simp
  refine (root_any X.out.tree (HT.out.below X.out.below)).mono ?_
  rintro e13 w13 ⟨rfl, hb⟩
  simp only []
  replace X := hide (X.out.after hb)
  clear hb
  refine hK.out _ _ X.out (fun _ => ?_)
  clear hK K
  rw [HRT.out]
  refine wpAnyH_ready (rs := [15]) (by kernel_rfl) (by simp) ?_
  refine rd15 (fun K hK => ?_) AllReadyH.nil
  go_simp
  refine (empty_any 0 (HT.out.below X.out.below)).mono ?_
  rintro e15 w15 ⟨rfl, hb⟩
  simp only []
  replace X := hide (X.out.after hb)
  clear hb
  refine hK.out _ _ X.out (fun _ => ?_)
  clear hK K
  rw [show lev 0 = 0 from rfl, HD0.out]
  refine wpAnyH_ready (rs := [16]) (by kernel_rfl) (by simp) ?_
  refine rd16 (fun K hK => ?_) AllReadyH.nil
  go_simp
  refine (node_any a1 D0 a1_ok HDO.out (HT.out.below X.out.below)).mono ?_
  rintro e16 w16 ⟨rfl, hb⟩
  simp only []
  replace X := hide (X.out.after hb)
  clear hb
  refine hK.out _ _ X.out (fun _ => ?_)
  clear hK K
  rw [HNR.out]
  refine tk17 (v := .bool true) (by kernel_rfl) (by kernel_rfl) (by kernel_rfl) (fun _ _ _ h => h) X.out (Or.inl ⟨by rfl, fun w hw => by go_simp; try (with_reducible rfl)⟩) ?_
  simp only [Act.put, List.setIfInBounds_toArray, List.set_cons_zero, List.set_cons_succ]
  refine tk18 (v := .bool true) (by kernel_rfl) (by kernel_rfl) (by kernel_rfl) (fun _ _ _ h => h) X.out (Or.inl ⟨by rfl, fun w hw => by go_simp; try (with_reducible rfl)⟩) ?_
  simp only [Act.put, List.setIfInBounds_toArray, List.set_cons_zero, List.set_cons_succ]
  refine tk19 (v := .bool true) (by kernel_rfl) (by kernel_rfl) (by kernel_rfl) (fun _ _ _ h => h) X.out (Or.inl ⟨by rfl, fun w hw => by go_simp; try (with_reducible rfl)⟩) ?_
  simp only [Act.put, List.setIfInBounds_toArray, List.set_cons_zero]
  refine wpAnyH_done (by kernel_rfl) ?_ _
  go_wp2
  go_ret
  exact ⟨rfl, X.out.below⟩
end Go.Proofs.YtlkmebimgpigjaaDoor
