/- The walk of sponsionlaw07.IntentApart over this translation. -/
import Derived.Test.YthcahgfoganehaaDoorItnId
import Derived.Test.YthcahgfoganehaaDoorApartMath
import Derived.Test.YthcahgfoganehaaDoorHashEq
import Derived.Test.YthcahgfoganehaaDoorHand
import Derived.Laws.AppendOwn
namespace Go.Proofs.YthcahgfoganehaaDoor
open Go.RowKit Go.Lib
attribute [local go_sem] setCell_drewN alloc_drewN eqInt9 eqHash

/-- A string as bytes: a new row, fit to be a part. -/
theorem conv_part (w : World) (L : List Int) (hby : Byt L) (hl : L.length ≤ 1000) : ∃ g cap w', (convert 9 29 (.string (strOfNums L))).run Tryd.prog w = .ok (.slice (some ⟨g, 0, none⟩) L.length cap) w' ∧ PtOk w' ⟨some ⟨g, 0, none⟩, cap, L⟩ ∧ Below w.heap.size w w' := by
  refine ⟨_, _, _, by rw [Go.Lib.run_convert_string_bytes w 9 29 5 (strOfNums L) Tryd.underlying9 Tryd.underlying29 Tryd.underlying5, strOfNums_size], ?_, bytesWorld_below w _ _⟩
  refine ⟨.inr ⟨_, _, rfl, by rw [bytesWorld_size]; omega, fun j hj => ?_⟩, grownCap_ge _ _ _ _, grownCap_le_maxLen _ _ _ _ (by unfold maxLen; omega), hby⟩
  rw [Nat.zero_add, bytesWorld_cell w _ _ j (by rw [strOfNums_size]; exact hj), getD_str L hby j hj]
/-- The text of one part. -/
theorem text_one {w : World} (tag : Int) (h0 : 0 ≤ tag) (h1 : tag < 256) (ao : Option Addr) (pa : Option Addr) (pc : Nat) (l : List Int) (hp : Parts w ao [⟨pa, pc, l⟩]) (hn : pa ≠ none) (hl : l.length ≤ 1000) :
    Calls Tryd.prog 16 #[.int .u8 tag, .slice ao 1 1] w fun e w' => ∃ bo bc, e = .returned (.slice bo (dtext tag [l]).length bc) ∧ PtOk w' ⟨bo, bc, dtext tag [l]⟩ ∧ Below w.heap.size w w' := by
  have hlen : (dtext tag [l]).length ≤ 900000 := by simp [dtext, ptexts, ptext, be_length]; omega
  have hby : Byt (dtext tag [l]) := dtext_byt (Parts.byt hp)
  refine (text_any tag h0 h1 ao 1 [⟨pa, pc, l⟩] hp (fun q hq e => by simp at hq; subst hq; exact absurd e hn) hlen (by simp)).mono ?_
  rintro e w' ⟨v, rfl, hv, hb⟩
  have hv' : Bs w' w.heap.size v (dtext tag [l]) := hv
  obtain ⟨bo, bc, rfl, k1, k2, k3⟩ := hv'.cell
  exact ⟨bo, bc, rfl, ⟨k3, k1, k2, hby⟩, hb⟩
/-- What stands. -/
structure SA (w0 : World) (gx gy : Nat) (x y : Itn) (w : World) : Prop where
  bx : Bx w gx x.i x.t x.o (lm x.a 0) (lm x.a 1) (lm x.a 2) (lm x.a 3)
  by' : Bx w gy y.i y.t y.o (lm y.a 0) (lm y.a 1) (lm y.a 2) (lm y.a 3)
  below : Below w0.heap.size w0 w
theorem SA.after {w0 w w' : World} {gx gy : Nat} {x y : Itn} (h : SA w0 gx gy x y w) (hb : Below w.heap.size w w') : SA w0 gx gy x y w' :=
  ⟨h.bx.after hb rfl, h.by'.after hb rfl, bOn h.below hb⟩
/-- Alike or not: told by the bytes as strings. -/
theorem itn_cases {x y : Itn} (hx : x.Ok) (hy : y.Ok) : x = y ∨ (((strOfNums (ibytes x)).toList == (strOfNums (ibytes y)).toList) = false ∧ same7 x.i x.t x.o (lm x.a 0) (lm x.a 1) (lm x.a 2) (lm x.a 3) y.i y.t y.o (lm y.a 0) (lm y.a 1) (lm y.a 2) (lm y.a 3) = false) := by
  by_cases h : x = y
  · exact .inl h
  · refine .inr ⟨?_, ?_⟩
    · rw [beq_eq_false_iff_ne]
      exact fun e => h (ibytes_inj hx hy (str_inj (ibytes_byt x) (ibytes_byt y) e))
    · rw [Bool.eq_false_iff]
      exact fun e => h ((itn_inj hx hy).1 e)
set_option maxRecDepth 100000 in
set_option maxHeartbeats 8000000 in
theorem intentApart_walk (x y : Itn) (w : World) (hx : x.Ok) (hy : y.Ok) (hT1 : Tab w 1) :
    Calls Tryd.prog 4 #[itnV x, itnV y] w fun e w' => e = .returned (.bool true) ∧ Below w.heap.size w w' := by
  have HX := hide hx; have HY := hide hy; have T1 := hide hT1
  clear hx hy hT1
  go_enter Tryd.func4, Tryd.ntmps4
  go_wp2_with fail
  have X : Hid (SA w w.heap.size (w.heap.size + 1) x y ((w.alloc (.cells #[.int .u32 x.i, .int .u8 x.t, .int .u8 x.o, .int .u64 (lm x.a 0), .int .u64 (lm x.a 1), .int .u64 (lm x.a 2), .int .u64 (lm x.a 3)] 27)).alloc (.cells #[.int .u32 y.i, .int .u8 y.t, .int .u8 y.o, .int .u64 (lm y.a 0), .int .u64 (lm y.a 1), .int .u64 (lm y.a 2), .int .u64 (lm y.a 3)] 27))) := ⟨(Bx.new w _ _ _ _ _ _ _ _ rfl).past _, Bx.new _ _ _ _ _ _ _ _ _ (by simp), bAl (bAl (bMe w))⟩
  generalize (w.alloc (.cells #[.int .u32 x.i, .int .u8 x.t, .int .u8 x.o, .int .u64 (lm x.a 0), .int .u64 (lm x.a 1), .int .u64 (lm x.a 2), .int .u64 (lm x.a 3)] 27)).alloc (.cells #[.int .u32 y.i, .int .u8 y.t, .int .u8 y.o, .int .u64 (lm y.a 0), .int .u64 (lm y.a 1), .int .u64 (lm y.a 2), .int .u64 (lm y.a 3)] 27) = w1 at *
  refine (lives7_any w1).mono ?_
  rintro e w2 ⟨rfl, hb⟩
  replace X := hide (X.out.after hb)
  clear hb
  go_wp2_with fail
  replace X := hide (X.out.after (bMe w2).drew)
  obtain ⟨Ta, hTa⟩ : ∃ T, strOfNums (ibytes x) = T := ⟨_, rfl⟩
  obtain ⟨Tb, hTb⟩ : ∃ T, strOfNums (ibytes y) = T := ⟨_, rfl⟩
  have HTA := hide hTa; have HTB := hide hTb
  clear hTa hTb
  refine wp_region_held_drew (S := fun w' => SA w w.heap.size (w.heap.size + 1) x y w') (by kernel_rfl) X.out (fun _ => ?_)
  generalize w2.drew = w3 at *
  refine tk0 (by kernel_rfl) (by kernel_rfl) (by kernel_rfl) (fun _ _ _ h => h) X.out (yieldsIf_load_mid (by rfl) _ _ rfl w.heap.size (0) rfl ([.int .u32 x.i, .int .u8 x.t, .int .u8 x.o, .int .u64 (lm x.a 0), .int .u64 (lm x.a 1), .int .u64 (lm x.a 2), .int .u64 (lm x.a 3)]) _ (fun _ hw => hw.bx.range) Tryd.underlying27 rfl (by kernel_rfl)) ?_
  simp only [Act.put, List.setIfInBounds_toArray, List.set_cons_zero, List.set_cons_succ]
  refine tk3 (by kernel_rfl) (by kernel_rfl) (by kernel_rfl) (fun _ _ _ h => h) X.out (yieldsIf_load_mid (by rfl) _ _ rfl (w.heap.size + 1) (0) rfl ([.int .u32 y.i, .int .u8 y.t, .int .u8 y.o, .int .u64 (lm y.a 0), .int .u64 (lm y.a 1), .int .u64 (lm y.a 2), .int .u64 (lm y.a 3)]) _ (fun _ hw => hw.by'.range) Tryd.underlying27 rfl (by kernel_rfl)) ?_
  simp only [Act.put, List.setIfInBounds_toArray, List.set_cons_zero, List.set_cons_succ]
  refine wpAnyH_ready (rs := [1]) (by kernel_rfl) (by simp) ?_
  refine rd1 (fun K hK => ?_) AllReadyH.nil
  go_simp
  refine (ibytes_any x HX.out _).mono ?_
  rintro e w4 ⟨v, rfl, hv, hb⟩
  simp only []
  obtain ⟨bo0, bc0, rfl, -, -, k7⟩ := hv.cell
  replace X : Hid ((SA w w.heap.size (w.heap.size + 1) x y w4) ∧ At w4 bo0 (ibytes x)) := ⟨X.out.after hb, k7⟩
  clear hv hb k7
  refine hK.out _ _ X.out.1 (fun _ => ?_)
  clear hK K
  refine hand_more (S' := fun w' => (SA w w.heap.size (w.heap.size + 1) x y w') ∧ At w' bo0 (ibytes x)) (fun _ h => h.1) _ _ _ _ ?_
  refine tk2 (v := .string Ta) (by kernel_rfl) (by kernel_rfl) (by kernel_rfl) (fun _ _ _ h => h) X.out (Or.inl ⟨by rfl, fun w hw => by have c := hw.2.str bc0; rw [HTA.out] at c; go_simp; try (with_reducible rfl)⟩) ?_
  simp only [Act.put, List.setIfInBounds_toArray, List.set_cons_zero, List.set_cons_succ]
  refine wpAnyH_ready (rs := [4]) (by kernel_rfl) (by simp) ?_
  refine rd4 (fun K hK => ?_) AllReadyH.nil
  go_simp
  refine (ibytes_any y HY.out _).mono ?_
  rintro e w5 ⟨v, rfl, hv, hb⟩
  simp only []
  obtain ⟨bo1, bc1, rfl, -, -, k7⟩ := hv.cell
  replace X : Hid (((SA w w.heap.size (w.heap.size + 1) x y w5) ∧ At w5 bo0 (ibytes x)) ∧ At w5 bo1 (ibytes y)) := ⟨⟨X.out.1.after hb, X.out.2.below hb⟩, k7⟩
  clear hv hb k7
  refine hK.out _ _ X.out.1 (fun _ => ?_)
  clear hK K
  refine hand_more (S' := fun w' => ((SA w w.heap.size (w.heap.size + 1) x y w') ∧ At w' bo0 (ibytes x)) ∧ At w' bo1 (ibytes y)) (fun _ h => h.1) _ _ _ _ ?_
  refine tk5 (v := .string Tb) (by kernel_rfl) (by kernel_rfl) (by kernel_rfl) (fun _ _ _ h => h) X.out (Or.inl ⟨by rfl, fun w hw => by have c := hw.2.str bc1; rw [HTB.out] at c; go_simp; try (with_reducible rfl)⟩) ?_
  simp only [Act.put, List.setIfInBounds_toArray, List.set_cons_zero, List.set_cons_succ]
  refine tk6 (v := .string Ta) (by kernel_rfl) (by kernel_rfl) (by kernel_rfl) (fun _ _ _ h => h) X.out (Or.inl ⟨by rfl, fun w hw => by go_simp; try (with_reducible rfl)⟩) ?_
  simp only [Act.put, List.setIfInBounds_toArray, List.set_cons_zero, List.set_cons_succ]
  refine tk7 (v := .string Tb) (by kernel_rfl) (by kernel_rfl) (by kernel_rfl) (fun _ _ _ h => h) X.out (Or.inl ⟨by rfl, fun w hw => by go_simp; try (with_reducible rfl)⟩) ?_
  simp only [Act.put, List.setIfInBounds_toArray, List.set_cons_zero, List.set_cons_succ]
  refine wpAnyH_done (by kernel_rfl) ?_ _
  replace X := hide X.out.1.1
  have hst : (Ta.toList == Tb.toList) = same7 x.i x.t x.o (lm x.a 0) (lm x.a 1) (lm x.a 2) (lm x.a 3) y.i y.t y.o (lm y.a 0) (lm y.a 1) (lm y.a 2) (lm y.a 3) := by
    rw [← HTA.out, ← HTB.out]
    rcases itn_cases HX.out HY.out with rfl | ⟨h1, h2⟩
    · rw [itn_self]; simp
    · rw [h1, h2]
  unfold same7 at hst
  obtain ⟨b1, f1⟩ : ∃ b, (x.i == y.i) = b := ⟨_, rfl⟩
  obtain ⟨b2, f2⟩ : ∃ b, (x.t == y.t) = b := ⟨_, rfl⟩
  obtain ⟨b3, f3⟩ : ∃ b, (x.o == y.o) = b := ⟨_, rfl⟩
  obtain ⟨b4, f4⟩ : ∃ b, same4 (lm x.a 0) (lm x.a 1) (lm x.a 2) (lm x.a 3) (lm y.a 0) (lm y.a 1) (lm y.a 2) (lm y.a 3) = b := ⟨_, rfl⟩
  rw [f1, f2, f3, f4] at hst
  obtain ⟨p0, p1, p2, p3, p4, p5, p6, p7, p8⟩ := X.out.bx
  obtain ⟨q0, q1, q2, q3, q4, q5, q6, q7, q8⟩ := X.out.by'
  have five : b1 = false ∨ (b1 = true ∧ b2 = false) ∨ (b1 = true ∧ b2 = true ∧ b3 = false) ∨ (b1 = true ∧ b2 = true ∧ b3 = true ∧ b4 = false) ∨ (b1 = true ∧ b2 = true ∧ b3 = true ∧ b4 = true) := by cases b1 <;> cases b2 <;> cases b3 <;> cases b4 <;> simp
  obtain ⟨F1, hF1⟩ : ∃ F, dsha 3 [ibytes x] = F := ⟨_, rfl⟩
  obtain ⟨F2, hF2⟩ : ∃ F, dsha 0 [ibytes x] = F := ⟨_, rfl⟩
  have HF1 := hide hF1; have HF2 := hide hF2
  have hs1 := sameH_self F1
  have hs2 := sameH_self F2
  obtain ⟨TA, hTA⟩ : ∃ T, strOfNums (dtext 3 [ibytes x]) = T := ⟨_, rfl⟩
  obtain ⟨TB, hTB⟩ : ∃ T, strOfNums (dtext 0 [ibytes y]) = T := ⟨_, rfl⟩
  have hne : Hid ((TA.toList == TB.toList) = false) := by
    show _ = _
    rw [← hTA, ← hTB, beq_eq_false_iff_ne]
    intro e
    have h1 := str_inj (dtext_byt (fun m hm => by simp at hm; subst hm; exact ibytes_byt x)) (dtext_byt (fun m hm => by simp at hm; subst hm; exact ibytes_byt y)) e
    have h2 := (dtext_inj (by omega) (by omega) (fun m hm => by simp at hm; subst hm; rw [ibytes_length]; omega) (fun m hm => by simp at hm; subst hm; rw [ibytes_length]; omega) h1).1
    omega
  have HT3 := hide hTA; have HT0 := hide hTB
  clear hF1 hF2 hTA hTB
  rcases five with rfl | ⟨rfl, rfl⟩ | ⟨rfl, rfl, rfl⟩ | ⟨rfl, rfl, rfl, rfl⟩ | ⟨rfl, rfl, rfl, rfl⟩
  all_goals simp only [Bool.false_and, Bool.and_false, Bool.and_true] at hst
  all_goals go_wp2_with fail
  all_goals clear p0 p1 p2 p3 p4 p5 p6 p7 p8 q0 q1 q2 q3 q4 q5 q6 q7 q8 f1 f2 f3 f4 hst
  all_goals
    refine (id_any x HX.out _ (T1.out.below X.out.below)).mono ?_
    rintro e wAa ⟨rfl, hb⟩
    replace X := hide (X.out.after hb)
    clear hb
    rw [HF1.out]
    obtain ⟨g1, c1, wAb, hcv, hp, hb⟩ := conv_part wAa (ibytes x) (ibytes_byt x) (by rw [ibytes_length]; omega)
    rw [HTA.out] at hcv
    replace X := hide (X.out.after hb)
    have P := hide hp
    clear hp hb
    go_wp2_with fail
    have Q := hide (one_part (some ⟨g1, 0, none⟩) c1 (ibytes x) P.out 29 rfl)
    replace X := hide (X.out.after (bAl (o := .cells #[.slice (some ⟨g1, 0, none⟩) (ibytes x).length c1] 29) (bMe wAb)))
    refine (text_one 3 (by omega) (by omega) _ _ _ _ Q.out (by simp) (by rw [ibytes_length]; omega)).mono ?_
    rintro e wAc ⟨bo, bc, rfl, hp, hb⟩
    replace X := hide (X.out.after hb)
    have P2 := hide hp
    clear hp hb Q P hcv
    go_wp2_with fail
    refine (dsum_one bo bc (dtext 3 [ibytes x]) P2.out (by simp [dtext, ptexts, ptext, be_length, ibytes_length]) (T1.out.below X.out.below) 29 rfl).mono ?_
    rintro e wAd ⟨rfl, hb⟩
    replace X := hide (X.out.after hb)
    clear hb P2
    rw [show sha (dtext 3 [ibytes x]) = F1 from HF1.out]
    obtain ⟨p0, p1, p2, p3, p4, p5, p6, p7, p8⟩ := X.out.bx
    go_wp2_with fail
    clear p0 p1 p2 p3 p4 p5 p6 p7 p8
    refine (leafI_any x HX.out _ (T1.out.below X.out.below)).mono ?_
    rintro e wBa ⟨rfl, hb⟩
    replace X := hide (X.out.after hb)
    clear hb
    rw [HF2.out]
    obtain ⟨g1, c1, wBb, hcv, hp, hb⟩ := conv_part wBa (ibytes x) (ibytes_byt x) (by rw [ibytes_length]; omega)
    rw [HTA.out] at hcv
    replace X := hide (X.out.after hb)
    have P := hide hp
    clear hp hb
    go_wp2_with fail
    have Q := hide (one_part (some ⟨g1, 0, none⟩) c1 (ibytes x) P.out 29 rfl)
    replace X := hide (X.out.after (bAl (o := .cells #[.slice (some ⟨g1, 0, none⟩) (ibytes x).length c1] 29) (bMe wBb)))
    refine (text_one 0 (by omega) (by omega) _ _ _ _ Q.out (by simp) (by rw [ibytes_length]; omega)).mono ?_
    rintro e wBc ⟨bo, bc, rfl, hp, hb⟩
    replace X := hide (X.out.after hb)
    have P2 := hide hp
    clear hp hb Q P hcv
    go_wp2_with fail
    refine (dsum_one bo bc (dtext 0 [ibytes x]) P2.out (by simp [dtext, ptexts, ptext, be_length, ibytes_length]) (T1.out.below X.out.below) 29 rfl).mono ?_
    rintro e wBd ⟨rfl, hb⟩
    replace X := hide (X.out.after hb)
    clear hb P2
    rw [show sha (dtext 0 [ibytes x]) = F2 from HF2.out]
    go_wp2_with fail
    have hseq := hne.out
    clear hs1 hs2
    replace X := hide (X.out.after (bMe wBd).drew)
    refine wp_region_held_drew (S := fun w' => SA w w.heap.size (w.heap.size + 1) x y w') (by kernel_rfl) X.out (fun _ => ?_)
    generalize wBd.drew = wC at *
    refine tk0 (v := .string Ta) (by kernel_rfl) (by kernel_rfl) (by kernel_rfl) (fun _ _ _ h => h) X.out (Or.inl ⟨by rfl, fun w hw => by go_simp; try (with_reducible rfl)⟩) ?_
    simp only [Act.put, List.setIfInBounds_toArray, List.set_cons_zero, List.set_cons_succ]
    refine tk5 (v := .string Tb) (by kernel_rfl) (by kernel_rfl) (by kernel_rfl) (fun _ _ _ h => h) X.out (Or.inl ⟨by rfl, fun w hw => by go_simp; try (with_reducible rfl)⟩) ?_
    simp only [Act.put, List.setIfInBounds_toArray, List.set_cons_zero, List.set_cons_succ]
    refine wpAnyH_ready (rs := [1, 6]) (by kernel_rfl) (by simp) ?_
    refine rd1 (fun K hK => ?_) (rd6 (fun K hK => ?_) AllReadyH.nil)
    · obtain ⟨gA, cA, wt1, hcv, hp, hb⟩ := conv_part wC (ibytes x) (ibytes_byt x) (by rw [ibytes_length]; omega)
      rw [HTA.out] at hcv
      go_simp
      replace X := hide (X.out.after hb)
      have PA := hide hp
      clear hcv hp hb
      refine hK.out _ _ X.out (fun _ => ?_)
      clear hK K
      refine wpAnyH_ready (rs := [2, 6]) (by kernel_rfl) (by simp) ?_
      refine rd2 (fun K hK => ?_) (rd6 (fun K hK => ?_) AllReadyH.nil)
      · go_simp
        have QA := hide (one_part (some ⟨gA, 0, none⟩) cA (ibytes x) PA.out 29 rfl)
        clear PA
        have hb := bAl (o := .cells #[.slice (some ⟨gA, 0, none⟩) (ibytes x).length cA] 29) (bMe wt1)
        generalize wt1.alloc (.cells #[.slice (some ⟨gA, 0, none⟩) (ibytes x).length cA] 29) = wt2 at *
        replace X := hide (X.out.after hb)
        clear hb
        generalize wt1.heap.size = hA at *
        refine hK.out _ _ X.out (fun _ => ?_)
        clear hK K
        refine wpAnyH_ready (rs := [3, 6]) (by kernel_rfl) (by simp) ?_
        refine rd3 (fun K hK => ?_) (rd6 (fun K hK => ?_) AllReadyH.nil)
        · go_simp
          refine (text_one 3 (by omega) (by omega) _ _ _ _ QA.out (by simp) (by rw [ibytes_length]; omega)).mono ?_
          rintro e wt3 ⟨bA, kA, rfl, hp, hb⟩
          simp only []
          clear QA
          replace X := hide (X.out.after hb)
          have AA := hide hp.lies
          clear hp hb
          refine hK.out _ _ X.out (fun _ => ?_)
          clear hK K
          replace X : Hid ((SA w w.heap.size (w.heap.size + 1) x y wt3) ∧ At wt3 bA (dtext 3 [ibytes x])) := ⟨X.out, AA.out⟩
          refine hand_more (S' := fun w' => (SA w w.heap.size (w.heap.size + 1) x y w') ∧ At w' bA (dtext 3 [ibytes x])) (fun _ h => h.1) _ _ _ _ ?_
          clear AA
          refine tk4 (v := .string TA) (by kernel_rfl) (by kernel_rfl) (by kernel_rfl) (fun _ _ _ h => h) X.out (Or.inl ⟨by rfl, fun w hw => by have c := hw.2.str kA; rw [HT3.out] at c; go_simp; try (with_reducible rfl)⟩) ?_
          simp only [Act.put, List.setIfInBounds_toArray, List.set_cons_zero, List.set_cons_succ]
          refine wpAnyH_ready (rs := [6]) (by kernel_rfl) (by simp) ?_
          refine rd6 (fun K hK => ?_) AllReadyH.nil
          obtain ⟨gB, cB, wt4, hcv, hp, hb⟩ := conv_part wt3 (ibytes y) (ibytes_byt y) (by rw [ibytes_length]; omega)
          rw [HTB.out] at hcv
          go_simp
          replace X : Hid ((SA w w.heap.size (w.heap.size + 1) x y wt4) ∧ At wt4 bA (dtext 3 [ibytes x])) := ⟨X.out.1.after hb, X.out.2.below hb⟩
          have PB := hide hp
          clear hcv hp hb
          refine hK.out _ _ X.out (fun _ => ?_)
          clear hK K
          refine wpAnyH_ready (rs := [7]) (by kernel_rfl) (by simp) ?_
          refine rd7 (fun K hK => ?_) AllReadyH.nil
          go_simp
          have QB := hide (one_part (some ⟨gB, 0, none⟩) cB (ibytes y) PB.out 29 rfl)
          clear PB
          have hb := bAl (o := .cells #[.slice (some ⟨gB, 0, none⟩) (ibytes y).length cB] 29) (bMe wt4)
          generalize wt4.alloc (.cells #[.slice (some ⟨gB, 0, none⟩) (ibytes y).length cB] 29) = wt5 at *
          replace X : Hid ((SA w w.heap.size (w.heap.size + 1) x y wt5) ∧ At wt5 bA (dtext 3 [ibytes x])) := ⟨X.out.1.after hb, X.out.2.below hb⟩
          clear hb
          generalize wt4.heap.size = hB at *
          refine hK.out _ _ X.out (fun _ => ?_)
          clear hK K
          refine wpAnyH_ready (rs := [8]) (by kernel_rfl) (by simp) ?_
          refine rd8 (fun K hK => ?_) AllReadyH.nil
          go_simp
          refine (text_one 0 (by omega) (by omega) _ _ _ _ QB.out (by simp) (by rw [ibytes_length]; omega)).mono ?_
          rintro e wt6 ⟨bB, kB, rfl, hp, hb⟩
          simp only []
          clear QB
          replace X : Hid ((SA w w.heap.size (w.heap.size + 1) x y wt6) ∧ At wt6 bA (dtext 3 [ibytes x])) := ⟨X.out.1.after hb, X.out.2.below hb⟩
          have AA := hide hp.lies
          clear hp hb
          refine hK.out _ _ X.out (fun _ => ?_)
          clear hK K
          replace X : Hid (((SA w w.heap.size (w.heap.size + 1) x y wt6) ∧ At wt6 bA (dtext 3 [ibytes x])) ∧ At wt6 bB (dtext 0 [ibytes y])) := ⟨X.out, AA.out⟩
          refine hand_more (S' := fun w' => ((SA w w.heap.size (w.heap.size + 1) x y w') ∧ At w' bA (dtext 3 [ibytes x])) ∧ At w' bB (dtext 0 [ibytes y])) (fun _ h => h.1) _ _ _ _ ?_
          clear AA
          refine tk9 (v := .string TB) (by kernel_rfl) (by kernel_rfl) (by kernel_rfl) (fun _ _ _ h => h) X.out (Or.inl ⟨by rfl, fun w hw => by have c := hw.2.str kB; rw [HT0.out] at c; go_simp; try (with_reducible rfl)⟩) ?_
          simp only [Act.put, List.setIfInBounds_toArray, List.set_cons_zero, List.set_cons_succ]
          refine tk10 (v := .bool true) (by kernel_rfl) (by kernel_rfl) (by kernel_rfl) (fun _ _ _ h => h) X.out (Or.inl ⟨by rfl, fun w hw => by go_simp; try (with_reducible rfl)⟩) ?_
          simp only [Act.put, List.setIfInBounds_toArray, List.set_cons_zero, List.set_cons_succ]
          refine tk11 (v := .bool true) (by kernel_rfl) (by kernel_rfl) (by kernel_rfl) (fun _ _ _ h => h) X.out (Or.inl ⟨by rfl, fun w hw => by go_simp; try (with_reducible rfl)⟩) ?_
          simp only [Act.put, List.setIfInBounds_toArray, List.set_cons_zero, List.set_cons_succ]
          refine wpAnyH_done (by kernel_rfl) ?_ _
          go_wp2
          go_ret
          exact ⟨rfl, X.out.1.1.below⟩
        · obtain ⟨gB, cB, wt7, hcv, hp, hb⟩ := conv_part wt2 (ibytes y) (ibytes_byt y) (by rw [ibytes_length]; omega)
          rw [HTB.out] at hcv
          go_simp
          replace X := hide (X.out.after hb)
          replace QA := hide (QA.out.below hb)
          have PB := hide hp
          clear hcv hp hb
          refine hK.out _ _ X.out (fun _ => ?_)
          clear hK K
          refine wpAnyH_ready (rs := [3, 7]) (by kernel_rfl) (by simp) ?_
          refine rd3 (fun K hK => ?_) (rd7 (fun K hK => ?_) AllReadyH.nil)
          · go_simp
            refine (text_one 3 (by omega) (by omega) _ _ _ _ QA.out (by simp) (by rw [ibytes_length]; omega)).mono ?_
            rintro e wt8 ⟨bA, kA, rfl, hp, hb⟩
            simp only []
            clear QA
            replace X := hide (X.out.after hb)
            replace PB := hide (PB.out.below hb)
            have AA := hide hp.lies
            clear hp hb
            refine hK.out _ _ X.out (fun _ => ?_)
            clear hK K
            replace X : Hid ((SA w w.heap.size (w.heap.size + 1) x y wt8) ∧ At wt8 bA (dtext 3 [ibytes x])) := ⟨X.out, AA.out⟩
            refine hand_more (S' := fun w' => (SA w w.heap.size (w.heap.size + 1) x y w') ∧ At w' bA (dtext 3 [ibytes x])) (fun _ h => h.1) _ _ _ _ ?_
            clear AA
            refine tk4 (v := .string TA) (by kernel_rfl) (by kernel_rfl) (by kernel_rfl) (fun _ _ _ h => h) X.out (Or.inl ⟨by rfl, fun w hw => by have c := hw.2.str kA; rw [HT3.out] at c; go_simp; try (with_reducible rfl)⟩) ?_
            simp only [Act.put, List.setIfInBounds_toArray, List.set_cons_zero, List.set_cons_succ]
            refine wpAnyH_ready (rs := [7]) (by kernel_rfl) (by simp) ?_
            refine rd7 (fun K hK => ?_) AllReadyH.nil
            go_simp
            have QB := hide (one_part (some ⟨gB, 0, none⟩) cB (ibytes y) PB.out 29 rfl)
            clear PB
            have hb := bAl (o := .cells #[.slice (some ⟨gB, 0, none⟩) (ibytes y).length cB] 29) (bMe wt8)
            generalize wt8.alloc (.cells #[.slice (some ⟨gB, 0, none⟩) (ibytes y).length cB] 29) = wt9 at *
            replace X : Hid ((SA w w.heap.size (w.heap.size + 1) x y wt9) ∧ At wt9 bA (dtext 3 [ibytes x])) := ⟨X.out.1.after hb, X.out.2.below hb⟩
            clear hb
            generalize wt8.heap.size = hB at *
            refine hK.out _ _ X.out (fun _ => ?_)
            clear hK K
            refine wpAnyH_ready (rs := [8]) (by kernel_rfl) (by simp) ?_
            refine rd8 (fun K hK => ?_) AllReadyH.nil
            go_simp
            refine (text_one 0 (by omega) (by omega) _ _ _ _ QB.out (by simp) (by rw [ibytes_length]; omega)).mono ?_
            rintro e wt10 ⟨bB, kB, rfl, hp, hb⟩
            simp only []
            clear QB
            replace X : Hid ((SA w w.heap.size (w.heap.size + 1) x y wt10) ∧ At wt10 bA (dtext 3 [ibytes x])) := ⟨X.out.1.after hb, X.out.2.below hb⟩
            have AA := hide hp.lies
            clear hp hb
            refine hK.out _ _ X.out (fun _ => ?_)
            clear hK K
            replace X : Hid (((SA w w.heap.size (w.heap.size + 1) x y wt10) ∧ At wt10 bA (dtext 3 [ibytes x])) ∧ At wt10 bB (dtext 0 [ibytes y])) := ⟨X.out, AA.out⟩
            refine hand_more (S' := fun w' => ((SA w w.heap.size (w.heap.size + 1) x y w') ∧ At w' bA (dtext 3 [ibytes x])) ∧ At w' bB (dtext 0 [ibytes y])) (fun _ h => h.1) _ _ _ _ ?_
            clear AA
            refine tk9 (v := .string TB) (by kernel_rfl) (by kernel_rfl) (by kernel_rfl) (fun _ _ _ h => h) X.out (Or.inl ⟨by rfl, fun w hw => by have c := hw.2.str kB; rw [HT0.out] at c; go_simp; try (with_reducible rfl)⟩) ?_
            simp only [Act.put, List.setIfInBounds_toArray, List.set_cons_zero, List.set_cons_succ]
            refine tk10 (v := .bool true) (by kernel_rfl) (by kernel_rfl) (by kernel_rfl) (fun _ _ _ h => h) X.out (Or.inl ⟨by rfl, fun w hw => by go_simp; try (with_reducible rfl)⟩) ?_
            simp only [Act.put, List.setIfInBounds_toArray, List.set_cons_zero, List.set_cons_succ]
            refine tk11 (v := .bool true) (by kernel_rfl) (by kernel_rfl) (by kernel_rfl) (fun _ _ _ h => h) X.out (Or.inl ⟨by rfl, fun w hw => by go_simp; try (with_reducible rfl)⟩) ?_
            simp only [Act.put, List.setIfInBounds_toArray, List.set_cons_zero, List.set_cons_succ]
            refine wpAnyH_done (by kernel_rfl) ?_ _
            go_wp2
            go_ret
            exact ⟨rfl, X.out.1.1.below⟩
          · go_simp
            have QB := hide (one_part (some ⟨gB, 0, none⟩) cB (ibytes y) PB.out 29 rfl)
            clear PB
            have hb := bAl (o := .cells #[.slice (some ⟨gB, 0, none⟩) (ibytes y).length cB] 29) (bMe wt7)
            generalize wt7.alloc (.cells #[.slice (some ⟨gB, 0, none⟩) (ibytes y).length cB] 29) = wt11 at *
            replace X := hide (X.out.after hb)
            replace QA := hide (QA.out.below hb)
            clear hb
            generalize wt7.heap.size = hB at *
            refine hK.out _ _ X.out (fun _ => ?_)
            clear hK K
            refine wpAnyH_ready (rs := [3]) (by kernel_rfl) (by simp) ?_
            refine rd3 (fun K hK => ?_) AllReadyH.nil
            go_simp
            refine (text_one 3 (by omega) (by omega) _ _ _ _ QA.out (by simp) (by rw [ibytes_length]; omega)).mono ?_
            rintro e wt12 ⟨bA, kA, rfl, hp, hb⟩
            simp only []
            clear QA
            replace X := hide (X.out.after hb)
            replace QB := hide (QB.out.below hb)
            have AA := hide hp.lies
            clear hp hb
            refine hK.out _ _ X.out (fun _ => ?_)
            clear hK K
            replace X : Hid ((SA w w.heap.size (w.heap.size + 1) x y wt12) ∧ At wt12 bA (dtext 3 [ibytes x])) := ⟨X.out, AA.out⟩
            refine hand_more (S' := fun w' => (SA w w.heap.size (w.heap.size + 1) x y w') ∧ At w' bA (dtext 3 [ibytes x])) (fun _ h => h.1) _ _ _ _ ?_
            clear AA
            refine tk4 (v := .string TA) (by kernel_rfl) (by kernel_rfl) (by kernel_rfl) (fun _ _ _ h => h) X.out (Or.inl ⟨by rfl, fun w hw => by have c := hw.2.str kA; rw [HT3.out] at c; go_simp; try (with_reducible rfl)⟩) ?_
            simp only [Act.put, List.setIfInBounds_toArray, List.set_cons_zero, List.set_cons_succ]
            refine wpAnyH_ready (rs := [8]) (by kernel_rfl) (by simp) ?_
            refine rd8 (fun K hK => ?_) AllReadyH.nil
            go_simp
            refine (text_one 0 (by omega) (by omega) _ _ _ _ QB.out (by simp) (by rw [ibytes_length]; omega)).mono ?_
            rintro e wt13 ⟨bB, kB, rfl, hp, hb⟩
            simp only []
            clear QB
            replace X : Hid ((SA w w.heap.size (w.heap.size + 1) x y wt13) ∧ At wt13 bA (dtext 3 [ibytes x])) := ⟨X.out.1.after hb, X.out.2.below hb⟩
            have AA := hide hp.lies
            clear hp hb
            refine hK.out _ _ X.out (fun _ => ?_)
            clear hK K
            replace X : Hid (((SA w w.heap.size (w.heap.size + 1) x y wt13) ∧ At wt13 bA (dtext 3 [ibytes x])) ∧ At wt13 bB (dtext 0 [ibytes y])) := ⟨X.out, AA.out⟩
            refine hand_more (S' := fun w' => ((SA w w.heap.size (w.heap.size + 1) x y w') ∧ At w' bA (dtext 3 [ibytes x])) ∧ At w' bB (dtext 0 [ibytes y])) (fun _ h => h.1) _ _ _ _ ?_
            clear AA
            refine tk9 (v := .string TB) (by kernel_rfl) (by kernel_rfl) (by kernel_rfl) (fun _ _ _ h => h) X.out (Or.inl ⟨by rfl, fun w hw => by have c := hw.2.str kB; rw [HT0.out] at c; go_simp; try (with_reducible rfl)⟩) ?_
            simp only [Act.put, List.setIfInBounds_toArray, List.set_cons_zero, List.set_cons_succ]
            refine tk10 (v := .bool true) (by kernel_rfl) (by kernel_rfl) (by kernel_rfl) (fun _ _ _ h => h) X.out (Or.inl ⟨by rfl, fun w hw => by go_simp; try (with_reducible rfl)⟩) ?_
            simp only [Act.put, List.setIfInBounds_toArray, List.set_cons_zero, List.set_cons_succ]
            refine tk11 (v := .bool true) (by kernel_rfl) (by kernel_rfl) (by kernel_rfl) (fun _ _ _ h => h) X.out (Or.inl ⟨by rfl, fun w hw => by go_simp; try (with_reducible rfl)⟩) ?_
            simp only [Act.put, List.setIfInBounds_toArray, List.set_cons_zero, List.set_cons_succ]
            refine wpAnyH_done (by kernel_rfl) ?_ _
            go_wp2
            go_ret
            exact ⟨rfl, X.out.1.1.below⟩
      · obtain ⟨gB, cB, wt14, hcv, hp, hb⟩ := conv_part wt1 (ibytes y) (ibytes_byt y) (by rw [ibytes_length]; omega)
        rw [HTB.out] at hcv
        go_simp
        replace X := hide (X.out.after hb)
        replace PA := hide (PA.out.below hb)
        have PB := hide hp
        clear hcv hp hb
        refine hK.out _ _ X.out (fun _ => ?_)
        clear hK K
        refine wpAnyH_ready (rs := [2, 7]) (by kernel_rfl) (by simp) ?_
        refine rd2 (fun K hK => ?_) (rd7 (fun K hK => ?_) AllReadyH.nil)
        · go_simp
          have QA := hide (one_part (some ⟨gA, 0, none⟩) cA (ibytes x) PA.out 29 rfl)
          clear PA
          have hb := bAl (o := .cells #[.slice (some ⟨gA, 0, none⟩) (ibytes x).length cA] 29) (bMe wt14)
          generalize wt14.alloc (.cells #[.slice (some ⟨gA, 0, none⟩) (ibytes x).length cA] 29) = wt15 at *
          replace X := hide (X.out.after hb)
          replace PB := hide (PB.out.below hb)
          clear hb
          generalize wt14.heap.size = hA at *
          refine hK.out _ _ X.out (fun _ => ?_)
          clear hK K
          refine wpAnyH_ready (rs := [3, 7]) (by kernel_rfl) (by simp) ?_
          refine rd3 (fun K hK => ?_) (rd7 (fun K hK => ?_) AllReadyH.nil)
          · go_simp
            refine (text_one 3 (by omega) (by omega) _ _ _ _ QA.out (by simp) (by rw [ibytes_length]; omega)).mono ?_
            rintro e wt16 ⟨bA, kA, rfl, hp, hb⟩
            simp only []
            clear QA
            replace X := hide (X.out.after hb)
            replace PB := hide (PB.out.below hb)
            have AA := hide hp.lies
            clear hp hb
            refine hK.out _ _ X.out (fun _ => ?_)
            clear hK K
            replace X : Hid ((SA w w.heap.size (w.heap.size + 1) x y wt16) ∧ At wt16 bA (dtext 3 [ibytes x])) := ⟨X.out, AA.out⟩
            refine hand_more (S' := fun w' => (SA w w.heap.size (w.heap.size + 1) x y w') ∧ At w' bA (dtext 3 [ibytes x])) (fun _ h => h.1) _ _ _ _ ?_
            clear AA
            refine tk4 (v := .string TA) (by kernel_rfl) (by kernel_rfl) (by kernel_rfl) (fun _ _ _ h => h) X.out (Or.inl ⟨by rfl, fun w hw => by have c := hw.2.str kA; rw [HT3.out] at c; go_simp; try (with_reducible rfl)⟩) ?_
            simp only [Act.put, List.setIfInBounds_toArray, List.set_cons_zero, List.set_cons_succ]
            refine wpAnyH_ready (rs := [7]) (by kernel_rfl) (by simp) ?_
            refine rd7 (fun K hK => ?_) AllReadyH.nil
            go_simp
            have QB := hide (one_part (some ⟨gB, 0, none⟩) cB (ibytes y) PB.out 29 rfl)
            clear PB
            have hb := bAl (o := .cells #[.slice (some ⟨gB, 0, none⟩) (ibytes y).length cB] 29) (bMe wt16)
            generalize wt16.alloc (.cells #[.slice (some ⟨gB, 0, none⟩) (ibytes y).length cB] 29) = wt17 at *
            replace X : Hid ((SA w w.heap.size (w.heap.size + 1) x y wt17) ∧ At wt17 bA (dtext 3 [ibytes x])) := ⟨X.out.1.after hb, X.out.2.below hb⟩
            clear hb
            generalize wt16.heap.size = hB at *
            refine hK.out _ _ X.out (fun _ => ?_)
            clear hK K
            refine wpAnyH_ready (rs := [8]) (by kernel_rfl) (by simp) ?_
            refine rd8 (fun K hK => ?_) AllReadyH.nil
            go_simp
            refine (text_one 0 (by omega) (by omega) _ _ _ _ QB.out (by simp) (by rw [ibytes_length]; omega)).mono ?_
            rintro e wt18 ⟨bB, kB, rfl, hp, hb⟩
            simp only []
            clear QB
            replace X : Hid ((SA w w.heap.size (w.heap.size + 1) x y wt18) ∧ At wt18 bA (dtext 3 [ibytes x])) := ⟨X.out.1.after hb, X.out.2.below hb⟩
            have AA := hide hp.lies
            clear hp hb
            refine hK.out _ _ X.out (fun _ => ?_)
            clear hK K
            replace X : Hid (((SA w w.heap.size (w.heap.size + 1) x y wt18) ∧ At wt18 bA (dtext 3 [ibytes x])) ∧ At wt18 bB (dtext 0 [ibytes y])) := ⟨X.out, AA.out⟩
            refine hand_more (S' := fun w' => ((SA w w.heap.size (w.heap.size + 1) x y w') ∧ At w' bA (dtext 3 [ibytes x])) ∧ At w' bB (dtext 0 [ibytes y])) (fun _ h => h.1) _ _ _ _ ?_
            clear AA
            refine tk9 (v := .string TB) (by kernel_rfl) (by kernel_rfl) (by kernel_rfl) (fun _ _ _ h => h) X.out (Or.inl ⟨by rfl, fun w hw => by have c := hw.2.str kB; rw [HT0.out] at c; go_simp; try (with_reducible rfl)⟩) ?_
            simp only [Act.put, List.setIfInBounds_toArray, List.set_cons_zero, List.set_cons_succ]
            refine tk10 (v := .bool true) (by kernel_rfl) (by kernel_rfl) (by kernel_rfl) (fun _ _ _ h => h) X.out (Or.inl ⟨by rfl, fun w hw => by go_simp; try (with_reducible rfl)⟩) ?_
            simp only [Act.put, List.setIfInBounds_toArray, List.set_cons_zero, List.set_cons_succ]
            refine tk11 (v := .bool true) (by kernel_rfl) (by kernel_rfl) (by kernel_rfl) (fun _ _ _ h => h) X.out (Or.inl ⟨by rfl, fun w hw => by go_simp; try (with_reducible rfl)⟩) ?_
            simp only [Act.put, List.setIfInBounds_toArray, List.set_cons_zero, List.set_cons_succ]
            refine wpAnyH_done (by kernel_rfl) ?_ _
            go_wp2
            go_ret
            exact ⟨rfl, X.out.1.1.below⟩
          · go_simp
            have QB := hide (one_part (some ⟨gB, 0, none⟩) cB (ibytes y) PB.out 29 rfl)
            clear PB
            have hb := bAl (o := .cells #[.slice (some ⟨gB, 0, none⟩) (ibytes y).length cB] 29) (bMe wt15)
            generalize wt15.alloc (.cells #[.slice (some ⟨gB, 0, none⟩) (ibytes y).length cB] 29) = wt19 at *
            replace X := hide (X.out.after hb)
            replace QA := hide (QA.out.below hb)
            clear hb
            generalize wt15.heap.size = hB at *
            refine hK.out _ _ X.out (fun _ => ?_)
            clear hK K
            refine wpAnyH_ready (rs := [3]) (by kernel_rfl) (by simp) ?_
            refine rd3 (fun K hK => ?_) AllReadyH.nil
            go_simp
            refine (text_one 3 (by omega) (by omega) _ _ _ _ QA.out (by simp) (by rw [ibytes_length]; omega)).mono ?_
            rintro e wt20 ⟨bA, kA, rfl, hp, hb⟩
            simp only []
            clear QA
            replace X := hide (X.out.after hb)
            replace QB := hide (QB.out.below hb)
            have AA := hide hp.lies
            clear hp hb
            refine hK.out _ _ X.out (fun _ => ?_)
            clear hK K
            replace X : Hid ((SA w w.heap.size (w.heap.size + 1) x y wt20) ∧ At wt20 bA (dtext 3 [ibytes x])) := ⟨X.out, AA.out⟩
            refine hand_more (S' := fun w' => (SA w w.heap.size (w.heap.size + 1) x y w') ∧ At w' bA (dtext 3 [ibytes x])) (fun _ h => h.1) _ _ _ _ ?_
            clear AA
            refine tk4 (v := .string TA) (by kernel_rfl) (by kernel_rfl) (by kernel_rfl) (fun _ _ _ h => h) X.out (Or.inl ⟨by rfl, fun w hw => by have c := hw.2.str kA; rw [HT3.out] at c; go_simp; try (with_reducible rfl)⟩) ?_
            simp only [Act.put, List.setIfInBounds_toArray, List.set_cons_zero, List.set_cons_succ]
            refine wpAnyH_ready (rs := [8]) (by kernel_rfl) (by simp) ?_
            refine rd8 (fun K hK => ?_) AllReadyH.nil
            go_simp
            refine (text_one 0 (by omega) (by omega) _ _ _ _ QB.out (by simp) (by rw [ibytes_length]; omega)).mono ?_
            rintro e wt21 ⟨bB, kB, rfl, hp, hb⟩
            simp only []
            clear QB
            replace X : Hid ((SA w w.heap.size (w.heap.size + 1) x y wt21) ∧ At wt21 bA (dtext 3 [ibytes x])) := ⟨X.out.1.after hb, X.out.2.below hb⟩
            have AA := hide hp.lies
            clear hp hb
            refine hK.out _ _ X.out (fun _ => ?_)
            clear hK K
            replace X : Hid (((SA w w.heap.size (w.heap.size + 1) x y wt21) ∧ At wt21 bA (dtext 3 [ibytes x])) ∧ At wt21 bB (dtext 0 [ibytes y])) := ⟨X.out, AA.out⟩
            refine hand_more (S' := fun w' => ((SA w w.heap.size (w.heap.size + 1) x y w') ∧ At w' bA (dtext 3 [ibytes x])) ∧ At w' bB (dtext 0 [ibytes y])) (fun _ h => h.1) _ _ _ _ ?_
            clear AA
            refine tk9 (v := .string TB) (by kernel_rfl) (by kernel_rfl) (by kernel_rfl) (fun _ _ _ h => h) X.out (Or.inl ⟨by rfl, fun w hw => by have c := hw.2.str kB; rw [HT0.out] at c; go_simp; try (with_reducible rfl)⟩) ?_
            simp only [Act.put, List.setIfInBounds_toArray, List.set_cons_zero, List.set_cons_succ]
            refine tk10 (v := .bool true) (by kernel_rfl) (by kernel_rfl) (by kernel_rfl) (fun _ _ _ h => h) X.out (Or.inl ⟨by rfl, fun w hw => by go_simp; try (with_reducible rfl)⟩) ?_
            simp only [Act.put, List.setIfInBounds_toArray, List.set_cons_zero, List.set_cons_succ]
            refine tk11 (v := .bool true) (by kernel_rfl) (by kernel_rfl) (by kernel_rfl) (fun _ _ _ h => h) X.out (Or.inl ⟨by rfl, fun w hw => by go_simp; try (with_reducible rfl)⟩) ?_
            simp only [Act.put, List.setIfInBounds_toArray, List.set_cons_zero, List.set_cons_succ]
            refine wpAnyH_done (by kernel_rfl) ?_ _
            go_wp2
            go_ret
            exact ⟨rfl, X.out.1.1.below⟩
        · go_simp
          have QB := hide (one_part (some ⟨gB, 0, none⟩) cB (ibytes y) PB.out 29 rfl)
          clear PB
          have hb := bAl (o := .cells #[.slice (some ⟨gB, 0, none⟩) (ibytes y).length cB] 29) (bMe wt14)
          generalize wt14.alloc (.cells #[.slice (some ⟨gB, 0, none⟩) (ibytes y).length cB] 29) = wt22 at *
          replace X := hide (X.out.after hb)
          replace PA := hide (PA.out.below hb)
          clear hb
          generalize wt14.heap.size = hB at *
          refine hK.out _ _ X.out (fun _ => ?_)
          clear hK K
          refine wpAnyH_ready (rs := [2]) (by kernel_rfl) (by simp) ?_
          refine rd2 (fun K hK => ?_) AllReadyH.nil
          go_simp
          have QA := hide (one_part (some ⟨gA, 0, none⟩) cA (ibytes x) PA.out 29 rfl)
          clear PA
          have hb := bAl (o := .cells #[.slice (some ⟨gA, 0, none⟩) (ibytes x).length cA] 29) (bMe wt22)
          generalize wt22.alloc (.cells #[.slice (some ⟨gA, 0, none⟩) (ibytes x).length cA] 29) = wt23 at *
          replace X := hide (X.out.after hb)
          replace QB := hide (QB.out.below hb)
          clear hb
          generalize wt22.heap.size = hA at *
          refine hK.out _ _ X.out (fun _ => ?_)
          clear hK K
          refine wpAnyH_ready (rs := [3]) (by kernel_rfl) (by simp) ?_
          refine rd3 (fun K hK => ?_) AllReadyH.nil
          go_simp
          refine (text_one 3 (by omega) (by omega) _ _ _ _ QA.out (by simp) (by rw [ibytes_length]; omega)).mono ?_
          rintro e wt24 ⟨bA, kA, rfl, hp, hb⟩
          simp only []
          clear QA
          replace X := hide (X.out.after hb)
          replace QB := hide (QB.out.below hb)
          have AA := hide hp.lies
          clear hp hb
          refine hK.out _ _ X.out (fun _ => ?_)
          clear hK K
          replace X : Hid ((SA w w.heap.size (w.heap.size + 1) x y wt24) ∧ At wt24 bA (dtext 3 [ibytes x])) := ⟨X.out, AA.out⟩
          refine hand_more (S' := fun w' => (SA w w.heap.size (w.heap.size + 1) x y w') ∧ At w' bA (dtext 3 [ibytes x])) (fun _ h => h.1) _ _ _ _ ?_
          clear AA
          refine tk4 (v := .string TA) (by kernel_rfl) (by kernel_rfl) (by kernel_rfl) (fun _ _ _ h => h) X.out (Or.inl ⟨by rfl, fun w hw => by have c := hw.2.str kA; rw [HT3.out] at c; go_simp; try (with_reducible rfl)⟩) ?_
          simp only [Act.put, List.setIfInBounds_toArray, List.set_cons_zero, List.set_cons_succ]
          refine wpAnyH_ready (rs := [8]) (by kernel_rfl) (by simp) ?_
          refine rd8 (fun K hK => ?_) AllReadyH.nil
          go_simp
          refine (text_one 0 (by omega) (by omega) _ _ _ _ QB.out (by simp) (by rw [ibytes_length]; omega)).mono ?_
          rintro e wt25 ⟨bB, kB, rfl, hp, hb⟩
          simp only []
          clear QB
          replace X : Hid ((SA w w.heap.size (w.heap.size + 1) x y wt25) ∧ At wt25 bA (dtext 3 [ibytes x])) := ⟨X.out.1.after hb, X.out.2.below hb⟩
          have AA := hide hp.lies
          clear hp hb
          refine hK.out _ _ X.out (fun _ => ?_)
          clear hK K
          replace X : Hid (((SA w w.heap.size (w.heap.size + 1) x y wt25) ∧ At wt25 bA (dtext 3 [ibytes x])) ∧ At wt25 bB (dtext 0 [ibytes y])) := ⟨X.out, AA.out⟩
          refine hand_more (S' := fun w' => ((SA w w.heap.size (w.heap.size + 1) x y w') ∧ At w' bA (dtext 3 [ibytes x])) ∧ At w' bB (dtext 0 [ibytes y])) (fun _ h => h.1) _ _ _ _ ?_
          clear AA
          refine tk9 (v := .string TB) (by kernel_rfl) (by kernel_rfl) (by kernel_rfl) (fun _ _ _ h => h) X.out (Or.inl ⟨by rfl, fun w hw => by have c := hw.2.str kB; rw [HT0.out] at c; go_simp; try (with_reducible rfl)⟩) ?_
          simp only [Act.put, List.setIfInBounds_toArray, List.set_cons_zero, List.set_cons_succ]
          refine tk10 (v := .bool true) (by kernel_rfl) (by kernel_rfl) (by kernel_rfl) (fun _ _ _ h => h) X.out (Or.inl ⟨by rfl, fun w hw => by go_simp; try (with_reducible rfl)⟩) ?_
          simp only [Act.put, List.setIfInBounds_toArray, List.set_cons_zero, List.set_cons_succ]
          refine tk11 (v := .bool true) (by kernel_rfl) (by kernel_rfl) (by kernel_rfl) (fun _ _ _ h => h) X.out (Or.inl ⟨by rfl, fun w hw => by go_simp; try (with_reducible rfl)⟩) ?_
          simp only [Act.put, List.setIfInBounds_toArray, List.set_cons_zero, List.set_cons_succ]
          refine wpAnyH_done (by kernel_rfl) ?_ _
          go_wp2
          go_ret
          exact ⟨rfl, X.out.1.1.below⟩
    · obtain ⟨gB, cB, wt26, hcv, hp, hb⟩ := conv_part wC (ibytes y) (ibytes_byt y) (by rw [ibytes_length]; omega)
      rw [HTB.out] at hcv
      go_simp
      replace X := hide (X.out.after hb)
      have PB := hide hp
      clear hcv hp hb
      refine hK.out _ _ X.out (fun _ => ?_)
      clear hK K
      refine wpAnyH_ready (rs := [1, 7]) (by kernel_rfl) (by simp) ?_
      refine rd1 (fun K hK => ?_) (rd7 (fun K hK => ?_) AllReadyH.nil)
      · obtain ⟨gA, cA, wt27, hcv, hp, hb⟩ := conv_part wt26 (ibytes x) (ibytes_byt x) (by rw [ibytes_length]; omega)
        rw [HTA.out] at hcv
        go_simp
        replace X := hide (X.out.after hb)
        replace PB := hide (PB.out.below hb)
        have PA := hide hp
        clear hcv hp hb
        refine hK.out _ _ X.out (fun _ => ?_)
        clear hK K
        refine wpAnyH_ready (rs := [2, 7]) (by kernel_rfl) (by simp) ?_
        refine rd2 (fun K hK => ?_) (rd7 (fun K hK => ?_) AllReadyH.nil)
        · go_simp
          have QA := hide (one_part (some ⟨gA, 0, none⟩) cA (ibytes x) PA.out 29 rfl)
          clear PA
          have hb := bAl (o := .cells #[.slice (some ⟨gA, 0, none⟩) (ibytes x).length cA] 29) (bMe wt27)
          generalize wt27.alloc (.cells #[.slice (some ⟨gA, 0, none⟩) (ibytes x).length cA] 29) = wt28 at *
          replace X := hide (X.out.after hb)
          replace PB := hide (PB.out.below hb)
          clear hb
          generalize wt27.heap.size = hA at *
          refine hK.out _ _ X.out (fun _ => ?_)
          clear hK K
          refine wpAnyH_ready (rs := [3, 7]) (by kernel_rfl) (by simp) ?_
          refine rd3 (fun K hK => ?_) (rd7 (fun K hK => ?_) AllReadyH.nil)
          · go_simp
            refine (text_one 3 (by omega) (by omega) _ _ _ _ QA.out (by simp) (by rw [ibytes_length]; omega)).mono ?_
            rintro e wt29 ⟨bA, kA, rfl, hp, hb⟩
            simp only []
            clear QA
            replace X := hide (X.out.after hb)
            replace PB := hide (PB.out.below hb)
            have AA := hide hp.lies
            clear hp hb
            refine hK.out _ _ X.out (fun _ => ?_)
            clear hK K
            replace X : Hid ((SA w w.heap.size (w.heap.size + 1) x y wt29) ∧ At wt29 bA (dtext 3 [ibytes x])) := ⟨X.out, AA.out⟩
            refine hand_more (S' := fun w' => (SA w w.heap.size (w.heap.size + 1) x y w') ∧ At w' bA (dtext 3 [ibytes x])) (fun _ h => h.1) _ _ _ _ ?_
            clear AA
            refine tk4 (v := .string TA) (by kernel_rfl) (by kernel_rfl) (by kernel_rfl) (fun _ _ _ h => h) X.out (Or.inl ⟨by rfl, fun w hw => by have c := hw.2.str kA; rw [HT3.out] at c; go_simp; try (with_reducible rfl)⟩) ?_
            simp only [Act.put, List.setIfInBounds_toArray, List.set_cons_zero, List.set_cons_succ]
            refine wpAnyH_ready (rs := [7]) (by kernel_rfl) (by simp) ?_
            refine rd7 (fun K hK => ?_) AllReadyH.nil
            go_simp
            have QB := hide (one_part (some ⟨gB, 0, none⟩) cB (ibytes y) PB.out 29 rfl)
            clear PB
            have hb := bAl (o := .cells #[.slice (some ⟨gB, 0, none⟩) (ibytes y).length cB] 29) (bMe wt29)
            generalize wt29.alloc (.cells #[.slice (some ⟨gB, 0, none⟩) (ibytes y).length cB] 29) = wt30 at *
            replace X : Hid ((SA w w.heap.size (w.heap.size + 1) x y wt30) ∧ At wt30 bA (dtext 3 [ibytes x])) := ⟨X.out.1.after hb, X.out.2.below hb⟩
            clear hb
            generalize wt29.heap.size = hB at *
            refine hK.out _ _ X.out (fun _ => ?_)
            clear hK K
            refine wpAnyH_ready (rs := [8]) (by kernel_rfl) (by simp) ?_
            refine rd8 (fun K hK => ?_) AllReadyH.nil
            go_simp
            refine (text_one 0 (by omega) (by omega) _ _ _ _ QB.out (by simp) (by rw [ibytes_length]; omega)).mono ?_
            rintro e wt31 ⟨bB, kB, rfl, hp, hb⟩
            simp only []
            clear QB
            replace X : Hid ((SA w w.heap.size (w.heap.size + 1) x y wt31) ∧ At wt31 bA (dtext 3 [ibytes x])) := ⟨X.out.1.after hb, X.out.2.below hb⟩
            have AA := hide hp.lies
            clear hp hb
            refine hK.out _ _ X.out (fun _ => ?_)
            clear hK K
            replace X : Hid (((SA w w.heap.size (w.heap.size + 1) x y wt31) ∧ At wt31 bA (dtext 3 [ibytes x])) ∧ At wt31 bB (dtext 0 [ibytes y])) := ⟨X.out, AA.out⟩
            refine hand_more (S' := fun w' => ((SA w w.heap.size (w.heap.size + 1) x y w') ∧ At w' bA (dtext 3 [ibytes x])) ∧ At w' bB (dtext 0 [ibytes y])) (fun _ h => h.1) _ _ _ _ ?_
            clear AA
            refine tk9 (v := .string TB) (by kernel_rfl) (by kernel_rfl) (by kernel_rfl) (fun _ _ _ h => h) X.out (Or.inl ⟨by rfl, fun w hw => by have c := hw.2.str kB; rw [HT0.out] at c; go_simp; try (with_reducible rfl)⟩) ?_
            simp only [Act.put, List.setIfInBounds_toArray, List.set_cons_zero, List.set_cons_succ]
            refine tk10 (v := .bool true) (by kernel_rfl) (by kernel_rfl) (by kernel_rfl) (fun _ _ _ h => h) X.out (Or.inl ⟨by rfl, fun w hw => by go_simp; try (with_reducible rfl)⟩) ?_
            simp only [Act.put, List.setIfInBounds_toArray, List.set_cons_zero, List.set_cons_succ]
            refine tk11 (v := .bool true) (by kernel_rfl) (by kernel_rfl) (by kernel_rfl) (fun _ _ _ h => h) X.out (Or.inl ⟨by rfl, fun w hw => by go_simp; try (with_reducible rfl)⟩) ?_
            simp only [Act.put, List.setIfInBounds_toArray, List.set_cons_zero, List.set_cons_succ]
            refine wpAnyH_done (by kernel_rfl) ?_ _
            go_wp2
            go_ret
            exact ⟨rfl, X.out.1.1.below⟩
          · go_simp
            have QB := hide (one_part (some ⟨gB, 0, none⟩) cB (ibytes y) PB.out 29 rfl)
            clear PB
            have hb := bAl (o := .cells #[.slice (some ⟨gB, 0, none⟩) (ibytes y).length cB] 29) (bMe wt28)
            generalize wt28.alloc (.cells #[.slice (some ⟨gB, 0, none⟩) (ibytes y).length cB] 29) = wt32 at *
            replace X := hide (X.out.after hb)
            replace QA := hide (QA.out.below hb)
            clear hb
            generalize wt28.heap.size = hB at *
            refine hK.out _ _ X.out (fun _ => ?_)
            clear hK K
            refine wpAnyH_ready (rs := [3]) (by kernel_rfl) (by simp) ?_
            refine rd3 (fun K hK => ?_) AllReadyH.nil
            go_simp
            refine (text_one 3 (by omega) (by omega) _ _ _ _ QA.out (by simp) (by rw [ibytes_length]; omega)).mono ?_
            rintro e wt33 ⟨bA, kA, rfl, hp, hb⟩
            simp only []
            clear QA
            replace X := hide (X.out.after hb)
            replace QB := hide (QB.out.below hb)
            have AA := hide hp.lies
            clear hp hb
            refine hK.out _ _ X.out (fun _ => ?_)
            clear hK K
            replace X : Hid ((SA w w.heap.size (w.heap.size + 1) x y wt33) ∧ At wt33 bA (dtext 3 [ibytes x])) := ⟨X.out, AA.out⟩
            refine hand_more (S' := fun w' => (SA w w.heap.size (w.heap.size + 1) x y w') ∧ At w' bA (dtext 3 [ibytes x])) (fun _ h => h.1) _ _ _ _ ?_
            clear AA
            refine tk4 (v := .string TA) (by kernel_rfl) (by kernel_rfl) (by kernel_rfl) (fun _ _ _ h => h) X.out (Or.inl ⟨by rfl, fun w hw => by have c := hw.2.str kA; rw [HT3.out] at c; go_simp; try (with_reducible rfl)⟩) ?_
            simp only [Act.put, List.setIfInBounds_toArray, List.set_cons_zero, List.set_cons_succ]
            refine wpAnyH_ready (rs := [8]) (by kernel_rfl) (by simp) ?_
            refine rd8 (fun K hK => ?_) AllReadyH.nil
            go_simp
            refine (text_one 0 (by omega) (by omega) _ _ _ _ QB.out (by simp) (by rw [ibytes_length]; omega)).mono ?_
            rintro e wt34 ⟨bB, kB, rfl, hp, hb⟩
            simp only []
            clear QB
            replace X : Hid ((SA w w.heap.size (w.heap.size + 1) x y wt34) ∧ At wt34 bA (dtext 3 [ibytes x])) := ⟨X.out.1.after hb, X.out.2.below hb⟩
            have AA := hide hp.lies
            clear hp hb
            refine hK.out _ _ X.out (fun _ => ?_)
            clear hK K
            replace X : Hid (((SA w w.heap.size (w.heap.size + 1) x y wt34) ∧ At wt34 bA (dtext 3 [ibytes x])) ∧ At wt34 bB (dtext 0 [ibytes y])) := ⟨X.out, AA.out⟩
            refine hand_more (S' := fun w' => ((SA w w.heap.size (w.heap.size + 1) x y w') ∧ At w' bA (dtext 3 [ibytes x])) ∧ At w' bB (dtext 0 [ibytes y])) (fun _ h => h.1) _ _ _ _ ?_
            clear AA
            refine tk9 (v := .string TB) (by kernel_rfl) (by kernel_rfl) (by kernel_rfl) (fun _ _ _ h => h) X.out (Or.inl ⟨by rfl, fun w hw => by have c := hw.2.str kB; rw [HT0.out] at c; go_simp; try (with_reducible rfl)⟩) ?_
            simp only [Act.put, List.setIfInBounds_toArray, List.set_cons_zero, List.set_cons_succ]
            refine tk10 (v := .bool true) (by kernel_rfl) (by kernel_rfl) (by kernel_rfl) (fun _ _ _ h => h) X.out (Or.inl ⟨by rfl, fun w hw => by go_simp; try (with_reducible rfl)⟩) ?_
            simp only [Act.put, List.setIfInBounds_toArray, List.set_cons_zero, List.set_cons_succ]
            refine tk11 (v := .bool true) (by kernel_rfl) (by kernel_rfl) (by kernel_rfl) (fun _ _ _ h => h) X.out (Or.inl ⟨by rfl, fun w hw => by go_simp; try (with_reducible rfl)⟩) ?_
            simp only [Act.put, List.setIfInBounds_toArray, List.set_cons_zero, List.set_cons_succ]
            refine wpAnyH_done (by kernel_rfl) ?_ _
            go_wp2
            go_ret
            exact ⟨rfl, X.out.1.1.below⟩
        · go_simp
          have QB := hide (one_part (some ⟨gB, 0, none⟩) cB (ibytes y) PB.out 29 rfl)
          clear PB
          have hb := bAl (o := .cells #[.slice (some ⟨gB, 0, none⟩) (ibytes y).length cB] 29) (bMe wt27)
          generalize wt27.alloc (.cells #[.slice (some ⟨gB, 0, none⟩) (ibytes y).length cB] 29) = wt35 at *
          replace X := hide (X.out.after hb)
          replace PA := hide (PA.out.below hb)
          clear hb
          generalize wt27.heap.size = hB at *
          refine hK.out _ _ X.out (fun _ => ?_)
          clear hK K
          refine wpAnyH_ready (rs := [2]) (by kernel_rfl) (by simp) ?_
          refine rd2 (fun K hK => ?_) AllReadyH.nil
          go_simp
          have QA := hide (one_part (some ⟨gA, 0, none⟩) cA (ibytes x) PA.out 29 rfl)
          clear PA
          have hb := bAl (o := .cells #[.slice (some ⟨gA, 0, none⟩) (ibytes x).length cA] 29) (bMe wt35)
          generalize wt35.alloc (.cells #[.slice (some ⟨gA, 0, none⟩) (ibytes x).length cA] 29) = wt36 at *
          replace X := hide (X.out.after hb)
          replace QB := hide (QB.out.below hb)
          clear hb
          generalize wt35.heap.size = hA at *
          refine hK.out _ _ X.out (fun _ => ?_)
          clear hK K
          refine wpAnyH_ready (rs := [3]) (by kernel_rfl) (by simp) ?_
          refine rd3 (fun K hK => ?_) AllReadyH.nil
          go_simp
          refine (text_one 3 (by omega) (by omega) _ _ _ _ QA.out (by simp) (by rw [ibytes_length]; omega)).mono ?_
          rintro e wt37 ⟨bA, kA, rfl, hp, hb⟩
          simp only []
          clear QA
          replace X := hide (X.out.after hb)
          replace QB := hide (QB.out.below hb)
          have AA := hide hp.lies
          clear hp hb
          refine hK.out _ _ X.out (fun _ => ?_)
          clear hK K
          replace X : Hid ((SA w w.heap.size (w.heap.size + 1) x y wt37) ∧ At wt37 bA (dtext 3 [ibytes x])) := ⟨X.out, AA.out⟩
          refine hand_more (S' := fun w' => (SA w w.heap.size (w.heap.size + 1) x y w') ∧ At w' bA (dtext 3 [ibytes x])) (fun _ h => h.1) _ _ _ _ ?_
          clear AA
          refine tk4 (v := .string TA) (by kernel_rfl) (by kernel_rfl) (by kernel_rfl) (fun _ _ _ h => h) X.out (Or.inl ⟨by rfl, fun w hw => by have c := hw.2.str kA; rw [HT3.out] at c; go_simp; try (with_reducible rfl)⟩) ?_
          simp only [Act.put, List.setIfInBounds_toArray, List.set_cons_zero, List.set_cons_succ]
          refine wpAnyH_ready (rs := [8]) (by kernel_rfl) (by simp) ?_
          refine rd8 (fun K hK => ?_) AllReadyH.nil
          go_simp
          refine (text_one 0 (by omega) (by omega) _ _ _ _ QB.out (by simp) (by rw [ibytes_length]; omega)).mono ?_
          rintro e wt38 ⟨bB, kB, rfl, hp, hb⟩
          simp only []
          clear QB
          replace X : Hid ((SA w w.heap.size (w.heap.size + 1) x y wt38) ∧ At wt38 bA (dtext 3 [ibytes x])) := ⟨X.out.1.after hb, X.out.2.below hb⟩
          have AA := hide hp.lies
          clear hp hb
          refine hK.out _ _ X.out (fun _ => ?_)
          clear hK K
          replace X : Hid (((SA w w.heap.size (w.heap.size + 1) x y wt38) ∧ At wt38 bA (dtext 3 [ibytes x])) ∧ At wt38 bB (dtext 0 [ibytes y])) := ⟨X.out, AA.out⟩
          refine hand_more (S' := fun w' => ((SA w w.heap.size (w.heap.size + 1) x y w') ∧ At w' bA (dtext 3 [ibytes x])) ∧ At w' bB (dtext 0 [ibytes y])) (fun _ h => h.1) _ _ _ _ ?_
          clear AA
          refine tk9 (v := .string TB) (by kernel_rfl) (by kernel_rfl) (by kernel_rfl) (fun _ _ _ h => h) X.out (Or.inl ⟨by rfl, fun w hw => by have c := hw.2.str kB; rw [HT0.out] at c; go_simp; try (with_reducible rfl)⟩) ?_
          simp only [Act.put, List.setIfInBounds_toArray, List.set_cons_zero, List.set_cons_succ]
          refine tk10 (v := .bool true) (by kernel_rfl) (by kernel_rfl) (by kernel_rfl) (fun _ _ _ h => h) X.out (Or.inl ⟨by rfl, fun w hw => by go_simp; try (with_reducible rfl)⟩) ?_
          simp only [Act.put, List.setIfInBounds_toArray, List.set_cons_zero, List.set_cons_succ]
          refine tk11 (v := .bool true) (by kernel_rfl) (by kernel_rfl) (by kernel_rfl) (fun _ _ _ h => h) X.out (Or.inl ⟨by rfl, fun w hw => by go_simp; try (with_reducible rfl)⟩) ?_
          simp only [Act.put, List.setIfInBounds_toArray, List.set_cons_zero, List.set_cons_succ]
          refine wpAnyH_done (by kernel_rfl) ?_ _
          go_wp2
          go_ret
          exact ⟨rfl, X.out.1.1.below⟩
      · go_simp
        have QB := hide (one_part (some ⟨gB, 0, none⟩) cB (ibytes y) PB.out 29 rfl)
        clear PB
        have hb := bAl (o := .cells #[.slice (some ⟨gB, 0, none⟩) (ibytes y).length cB] 29) (bMe wt26)
        generalize wt26.alloc (.cells #[.slice (some ⟨gB, 0, none⟩) (ibytes y).length cB] 29) = wt39 at *
        replace X := hide (X.out.after hb)
        clear hb
        generalize wt26.heap.size = hB at *
        refine hK.out _ _ X.out (fun _ => ?_)
        clear hK K
        refine wpAnyH_ready (rs := [1]) (by kernel_rfl) (by simp) ?_
        refine rd1 (fun K hK => ?_) AllReadyH.nil
        obtain ⟨gA, cA, wt40, hcv, hp, hb⟩ := conv_part wt39 (ibytes x) (ibytes_byt x) (by rw [ibytes_length]; omega)
        rw [HTA.out] at hcv
        go_simp
        replace X := hide (X.out.after hb)
        replace QB := hide (QB.out.below hb)
        have PA := hide hp
        clear hcv hp hb
        refine hK.out _ _ X.out (fun _ => ?_)
        clear hK K
        refine wpAnyH_ready (rs := [2]) (by kernel_rfl) (by simp) ?_
        refine rd2 (fun K hK => ?_) AllReadyH.nil
        go_simp
        have QA := hide (one_part (some ⟨gA, 0, none⟩) cA (ibytes x) PA.out 29 rfl)
        clear PA
        have hb := bAl (o := .cells #[.slice (some ⟨gA, 0, none⟩) (ibytes x).length cA] 29) (bMe wt40)
        generalize wt40.alloc (.cells #[.slice (some ⟨gA, 0, none⟩) (ibytes x).length cA] 29) = wt41 at *
        replace X := hide (X.out.after hb)
        replace QB := hide (QB.out.below hb)
        clear hb
        generalize wt40.heap.size = hA at *
        refine hK.out _ _ X.out (fun _ => ?_)
        clear hK K
        refine wpAnyH_ready (rs := [3]) (by kernel_rfl) (by simp) ?_
        refine rd3 (fun K hK => ?_) AllReadyH.nil
        go_simp
        refine (text_one 3 (by omega) (by omega) _ _ _ _ QA.out (by simp) (by rw [ibytes_length]; omega)).mono ?_
        rintro e wt42 ⟨bA, kA, rfl, hp, hb⟩
        simp only []
        clear QA
        replace X := hide (X.out.after hb)
        replace QB := hide (QB.out.below hb)
        have AA := hide hp.lies
        clear hp hb
        refine hK.out _ _ X.out (fun _ => ?_)
        clear hK K
        replace X : Hid ((SA w w.heap.size (w.heap.size + 1) x y wt42) ∧ At wt42 bA (dtext 3 [ibytes x])) := ⟨X.out, AA.out⟩
        refine hand_more (S' := fun w' => (SA w w.heap.size (w.heap.size + 1) x y w') ∧ At w' bA (dtext 3 [ibytes x])) (fun _ h => h.1) _ _ _ _ ?_
        clear AA
        refine tk4 (v := .string TA) (by kernel_rfl) (by kernel_rfl) (by kernel_rfl) (fun _ _ _ h => h) X.out (Or.inl ⟨by rfl, fun w hw => by have c := hw.2.str kA; rw [HT3.out] at c; go_simp; try (with_reducible rfl)⟩) ?_
        simp only [Act.put, List.setIfInBounds_toArray, List.set_cons_zero, List.set_cons_succ]
        refine wpAnyH_ready (rs := [8]) (by kernel_rfl) (by simp) ?_
        refine rd8 (fun K hK => ?_) AllReadyH.nil
        go_simp
        refine (text_one 0 (by omega) (by omega) _ _ _ _ QB.out (by simp) (by rw [ibytes_length]; omega)).mono ?_
        rintro e wt43 ⟨bB, kB, rfl, hp, hb⟩
        simp only []
        clear QB
        replace X : Hid ((SA w w.heap.size (w.heap.size + 1) x y wt43) ∧ At wt43 bA (dtext 3 [ibytes x])) := ⟨X.out.1.after hb, X.out.2.below hb⟩
        have AA := hide hp.lies
        clear hp hb
        refine hK.out _ _ X.out (fun _ => ?_)
        clear hK K
        replace X : Hid (((SA w w.heap.size (w.heap.size + 1) x y wt43) ∧ At wt43 bA (dtext 3 [ibytes x])) ∧ At wt43 bB (dtext 0 [ibytes y])) := ⟨X.out, AA.out⟩
        refine hand_more (S' := fun w' => ((SA w w.heap.size (w.heap.size + 1) x y w') ∧ At w' bA (dtext 3 [ibytes x])) ∧ At w' bB (dtext 0 [ibytes y])) (fun _ h => h.1) _ _ _ _ ?_
        clear AA
        refine tk9 (v := .string TB) (by kernel_rfl) (by kernel_rfl) (by kernel_rfl) (fun _ _ _ h => h) X.out (Or.inl ⟨by rfl, fun w hw => by have c := hw.2.str kB; rw [HT0.out] at c; go_simp; try (with_reducible rfl)⟩) ?_
        simp only [Act.put, List.setIfInBounds_toArray, List.set_cons_zero, List.set_cons_succ]
        refine tk10 (v := .bool true) (by kernel_rfl) (by kernel_rfl) (by kernel_rfl) (fun _ _ _ h => h) X.out (Or.inl ⟨by rfl, fun w hw => by go_simp; try (with_reducible rfl)⟩) ?_
        simp only [Act.put, List.setIfInBounds_toArray, List.set_cons_zero, List.set_cons_succ]
        refine tk11 (v := .bool true) (by kernel_rfl) (by kernel_rfl) (by kernel_rfl) (fun _ _ _ h => h) X.out (Or.inl ⟨by rfl, fun w hw => by go_simp; try (with_reducible rfl)⟩) ?_
        simp only [Act.put, List.setIfInBounds_toArray, List.set_cons_zero, List.set_cons_succ]
        refine wpAnyH_done (by kernel_rfl) ?_ _
        go_wp2
        go_ret
        exact ⟨rfl, X.out.1.1.below⟩
end Go.Proofs.YthcahgfoganehaaDoor
