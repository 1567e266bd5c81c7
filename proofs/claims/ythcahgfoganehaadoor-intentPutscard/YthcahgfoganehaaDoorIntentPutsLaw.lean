/- The walk of sponsionlaw07.IntentPuts over this translation. -/
import Derived.Test.YthcahgfoganehaaDoorItnId
import Derived.Test.YthcahgfoganehaaDoorHashEq
import Derived.Test.YthcahgfoganehaaDoorHand
namespace Go.Proofs.YthcahgfoganehaaDoor
open Go.RowKit Go.Lib
attribute [local go_sem] setCell_drewN alloc_drewN eqInt9 eqHash

/-- An intent is read from its own bytes, if it may be. -/
theorem ReadA.own {x y : Itn} {e : Int} (hx : x.Ok) (h : ReadA (ibytes x) y e) : (may x = true → y = x ∧ e = 0) ∧ (may x = false → y = noItn ∧ e = 6) := by
  obtain ⟨x1, l1, e1, hg, he, hy⟩ := h
  have hi : iof (ibytes x) = x := by have := iof_ibytes hx []; rwa [List.append_nil] at this
  have hd : (ibytes x).drop 38 = [] := by rw [List.drop_eq_nil_iff, ibytes_length]; exact Nat.le_refl _
  unfold Got at hg
  rw [hi, hd] at hg
  rcases hg with ⟨_, _, h1, rfl, rfl, rfl⟩ | ⟨_, _, h1, rfl, rfl, rfl⟩ | ⟨h1, _⟩
  · have he0 : e = 0 := by rw [he]; rfl
    refine ⟨fun _ => ?_, fun h => absurd (h1.symm.trans h) (by decide)⟩
    rcases hy with ⟨_, rfl⟩ | ⟨h, _⟩
    · exact ⟨rfl, he0⟩
    · exact absurd he0 h
  · have he0 : e = 6 := by rw [he]; rfl
    refine ⟨fun h => absurd (h1.symm.trans h) (by decide), fun _ => ?_⟩
    rcases hy with ⟨h, _⟩ | ⟨_, rfl⟩
    · omega
    · exact ⟨rfl, he0⟩
  · rcases h1 with h1 | h1
    · exact absurd rfl h1
    · rw [ibytes_length] at h1; omega
/-- What stands behind the reading. -/
structure SP (w0 : World) (gb g4 : Nat) (x y : Itn) (bo : Option Addr) (w : World) : Prop where
  box : Bx w gb x.i x.t x.o (lm x.a 0) (lm x.a 1) (lm x.a 2) (lm x.a 3)
  b4 : Bx w g4 y.i y.t y.o (lm y.a 0) (lm y.a 1) (lm y.a 2) (lm y.a 3)
  row : At w bo (ibytes x)
  below : Below w0.heap.size w0 w
theorem SP.after {w0 w w' : World} {gb g4 : Nat} {x y : Itn} {bo : Option Addr} (h : SP w0 gb g4 x y bo w) (hb : Below w.heap.size w w') : SP w0 gb g4 x y bo w' :=
  ⟨h.box.after hb rfl, h.b4.after hb rfl, h.row.below hb, bOn h.below hb⟩
theorem no7p {x : Itn} (h : x = noItn) : x.i = 0 ∧ x.t = 0 ∧ x.o = 0 ∧ same4 (lm x.a 0) (lm x.a 1) (lm x.a 2) (lm x.a 3) 0 0 0 0 = true := by
  subst h
  refine ⟨rfl, rfl, rfl, ?_⟩
  show same4 (lm 0 0) (lm 0 1) (lm 0 2) (lm 0 3) 0 0 0 0 = true
  rw [lm_zero, lm_zero, lm_zero, lm_zero]; rfl
set_option maxRecDepth 100000 in
set_option maxHeartbeats 8000000 in
theorem intentPuts_walk (x : Itn) (w : World) (hx : x.Ok) (hT1 : Tab w 1) (hT2 : Tab w 0) :
    Calls Tryd.prog 3 #[itnV x] w fun e w' => e = .returned (.bool true) ∧ Below w.heap.size w w' := by
  have HX := hide hx; have T1 := hide hT1; have T2 := hide hT2
  clear hx hT1 hT2
  have hlen := ibytes_length x
  go_enter Tryd.func3, Tryd.ntmps3
  go_wp2_with fail
  have P := hide (Bx.new w x.i x.t x.o (lm x.a 0) (lm x.a 1) (lm x.a 2) (lm x.a 3) 27 rfl)
  have B : Hid (Below w.heap.size w (w.alloc (.cells #[.int .u32 x.i, .int .u8 x.t, .int .u8 x.o, .int .u64 (lm x.a 0), .int .u64 (lm x.a 1), .int .u64 (lm x.a 2), .int .u64 (lm x.a 3)] 27))) := bAl (bMe w)
  generalize w.alloc (.cells #[.int .u32 x.i, .int .u8 x.t, .int .u8 x.o, .int .u64 (lm x.a 0), .int .u64 (lm x.a 1), .int .u64 (lm x.a 2), .int .u64 (lm x.a 3)] 27) = w1 at *
  refine (lives7_any w1).mono ?_
  rintro e w2 ⟨rfl, hb⟩
  replace P := hide (P.out.after hb rfl)
  replace B := hide (bOn B.out hb)
  clear hb
  obtain ⟨p0, p1, p2, p3, p4, p5, p6, p7, p8⟩ := P.out
  go_wp2_with fail
  clear p0 p1 p2 p3 p4 p5 p6 p7 p8
  refine (ibytes_any x HX.out w2).mono ?_
  rintro e w3 ⟨v, rfl, hv, hb⟩
  obtain ⟨bo, bc, rfl, -, -, k3⟩ := hv.cell
  have A := hide k3
  have AN : Hid (bo = none → bc = 0) := hv.at.2
  replace P := hide (P.out.after hb rfl)
  replace B := hide (bOn B.out hb)
  clear hv hb k3
  go_wp2_with fail
  refine (read_any bo bc (ibytes x) A.out AN.out (ibytes_byt x) (by rw [hlen]; omega)).mono ?_
  rintro r w4 ⟨y, E, rfl, hr, hb⟩
  have RO := hide (hr.own HX.out)
  have X : Hid (SP w w.heap.size w4.heap.size x y bo (w4.alloc (.cells #[.int .u32 y.i, .int .u8 y.t, .int .u8 y.o, .int .u64 (lm y.a 0), .int .u64 (lm y.a 1), .int .u64 (lm y.a 2), .int .u64 (lm y.a 3)] 27))) := ⟨(P.out.after hb rfl).past _, Bx.new w4 _ _ _ _ _ _ _ _ rfl, (A.out.below hb).below (bAl (bMe w4)), bAl (bOn B.out hb)⟩
  clear hr hb P B A
  go_wp2_with fail
  generalize w4.alloc (.cells #[.int .u32 y.i, .int .u8 y.t, .int .u8 y.o, .int .u64 (lm y.a 0), .int .u64 (lm y.a 1), .int .u64 (lm y.a 2), .int .u64 (lm y.a 3)] 27) = w5 at *
  generalize w4.heap.size = g4 at *
  obtain ⟨gb, hgb⟩ : ∃ gb, w.heap.size = gb := ⟨_, rfl⟩
  rw [hgb] at X
  simp only [hgb]
  have HGB := hide hgb
  clear hgb
  have Y := hide (X.out.after (bMe w5).drew)
  clear X
  have X := Y
  clear Y
  obtain ⟨T, hT⟩ : ∃ T, strOfNums (ibytes x) = T := ⟨_, rfl⟩
  obtain ⟨F1, hF1⟩ : ∃ F, dsha 3 [ibytes x] = F := ⟨_, rfl⟩
  obtain ⟨F2, hF2⟩ : ∃ F, dsha 0 [ibytes x] = F := ⟨_, rfl⟩
  have C3 : Hid (∀ w', SP w gb g4 x y bo w' → Calls Tryd.prog 8 #[itnV x] w' fun e w'' => e = .returned (.string T) ∧ Below w'.heap.size w' w'') := fun w' hw => by have c := text7_any x HX.out w'; rw [hT] at c; exact c
  have C7 : Hid (∀ w', SP w gb g4 x y bo w' → Calls Tryd.prog 9 #[itnV x] w' fun e w'' => e = .returned (.agg (rowV 32 F1).toArray) ∧ Below w'.heap.size w' w'') := fun w' hw => by have c := id_any x HX.out w' (T1.out.below hw.below); rw [hF1] at c; exact c
  have C9 : Hid (∀ w', SP w gb g4 x y bo w' → Calls Tryd.prog 10 #[itnV x] w' fun e w'' => e = .returned (.agg (rowV 32 F1).toArray) ∧ Below w'.heap.size w' w'') := fun w' hw => by have c := refid_any x HX.out w' (T2.out.below hw.below); rw [hF1] at c; exact c
  have C14 : Hid (∀ w', SP w gb g4 x y bo w' → Calls Tryd.prog 11 #[itnV x] w' fun e w'' => e = .returned (.agg (rowV 32 F2).toArray) ∧ Below w'.heap.size w' w'') := fun w' hw => by have c := leafI_any x HX.out w' (T1.out.below hw.below); rw [hF2] at c; exact c
  have C16 : Hid (∀ w', SP w gb g4 x y bo w' → Calls Tryd.prog 12 #[itnV x] w' fun e w'' => e = .returned (.agg (rowV 32 F2).toArray) ∧ Below w'.heap.size w' w'') := fun w' hw => by have c := refleaf_any x HX.out w' (T2.out.below hw.below); rw [hF2] at c; exact c
  have hs1 := sameH_self F1
  have hs2 := sameH_self F2
  have HST := hide hT
  clear hT hF1 hF2
  refine wp_region_held_drew (S := fun w' => SP w gb g4 x y bo w') (by kernel_rfl) X.out (fun _ => ?_)
  generalize w5.drew = w7 at *
  refine tk0 (v := .slice bo 38 bc) (by kernel_rfl) (by kernel_rfl) (by kernel_rfl) (fun _ _ _ h => h) X.out (Or.inl ⟨by rfl, fun w hw => by go_simp; try (with_reducible rfl)⟩) ?_
  simp only [Act.put, List.setIfInBounds_toArray, List.set_cons_zero, List.set_cons_succ]
  refine tk1 (v := .string T) (by kernel_rfl) (by kernel_rfl) (by kernel_rfl) (fun _ _ _ h => h) X.out (Or.inl ⟨by rfl, fun w hw => by have c := hw.row.str bc; rw [hlen, HST.out] at c; go_simp; try (with_reducible rfl)⟩) ?_
  simp only [Act.put, List.setIfInBounds_toArray, List.set_cons_zero, List.set_cons_succ]
  refine tk2 (by kernel_rfl) (by kernel_rfl) (by kernel_rfl) (fun _ _ _ h => h) X.out (yieldsIf_load_mid (by rfl) _ _ rfl gb (0) rfl ([.int .u32 x.i, .int .u8 x.t, .int .u8 x.o, .int .u64 (lm x.a 0), .int .u64 (lm x.a 1), .int .u64 (lm x.a 2), .int .u64 (lm x.a 3)]) _ (fun _ hw => hw.box.range) Tryd.underlying27 rfl (by kernel_rfl)) ?_
  simp only [Act.put, List.setIfInBounds_toArray, List.set_cons_zero, List.set_cons_succ]
  refine wpAnyH_ready (rs := [3]) (by kernel_rfl) (by simp) ?_
  refine rd3 (fun K hK => ?_) AllReadyH.nil
  go_simp
  refine (C3.out _ X.out).mono ?_
  rintro e w6 ⟨rfl, hb⟩
  simp only []
  replace X := hide (X.out.after hb)
  clear hb
  refine hK.out _ _ X.out (fun _ => ?_)
  clear hK K
  refine tk4 (v := .bool false) (by kernel_rfl) (by kernel_rfl) (by kernel_rfl) (fun _ _ _ h => h) X.out (Or.inl ⟨by rfl, fun w hw => by go_simp; try (with_reducible rfl)⟩) ?_
  simp only [Act.put, List.setIfInBounds_toArray, List.set_cons_zero, List.set_cons_succ]
  refine tk5 (v := .bool false) (by kernel_rfl) (by kernel_rfl) (by kernel_rfl) (fun _ _ _ h => h) X.out (Or.inl ⟨by rfl, fun w hw => by go_simp; try (with_reducible rfl)⟩) ?_
  simp only [Act.put, List.setIfInBounds_toArray, List.set_cons_zero, List.set_cons_succ]
  refine tk6 (by kernel_rfl) (by kernel_rfl) (by kernel_rfl) (fun _ _ _ h => h) X.out (yieldsIf_load_mid (by rfl) _ _ rfl gb (0) rfl ([.int .u32 x.i, .int .u8 x.t, .int .u8 x.o, .int .u64 (lm x.a 0), .int .u64 (lm x.a 1), .int .u64 (lm x.a 2), .int .u64 (lm x.a 3)]) _ (fun _ hw => hw.box.range) Tryd.underlying27 rfl (by kernel_rfl)) ?_
  simp only [Act.put, List.setIfInBounds_toArray, List.set_cons_zero, List.set_cons_succ]
  refine tk8 (by kernel_rfl) (by kernel_rfl) (by kernel_rfl) (fun _ _ _ h => h) X.out (yieldsIf_load_mid (by rfl) _ _ rfl gb (0) rfl ([.int .u32 x.i, .int .u8 x.t, .int .u8 x.o, .int .u64 (lm x.a 0), .int .u64 (lm x.a 1), .int .u64 (lm x.a 2), .int .u64 (lm x.a 3)]) _ (fun _ hw => hw.box.range) Tryd.underlying27 rfl (by kernel_rfl)) ?_
  simp only [Act.put, List.setIfInBounds_toArray, List.set_cons_zero, List.set_cons_succ]
  refine wpAnyH_ready (rs := [7]) (by kernel_rfl) (by simp) ?_
  refine rd7 (fun K hK => ?_) AllReadyH.nil
  go_simp
  refine (C7.out _ X.out).mono ?_
  rintro e w6 ⟨rfl, hb⟩
  simp only []
  replace X := hide (X.out.after hb)
  clear hb
  refine hK.out _ _ X.out (fun _ => ?_)
  clear hK K
  refine wpAnyH_ready (rs := [9]) (by kernel_rfl) (by simp) ?_
  refine rd9 (fun K hK => ?_) AllReadyH.nil
  go_simp
  refine (C9.out _ X.out).mono ?_
  rintro e w6 ⟨rfl, hb⟩
  simp only []
  replace X := hide (X.out.after hb)
  clear hb
  refine hK.out _ _ X.out (fun _ => ?_)
  clear hK K
  refine tk10 (v := .bool false) (by kernel_rfl) (by kernel_rfl) (by kernel_rfl) (fun _ _ _ h => h) X.out (Or.inl ⟨by rfl, fun w hw => by go_simp; try (with_reducible rfl)⟩) ?_
  simp only [Act.put, List.setIfInBounds_toArray, List.set_cons_zero, List.set_cons_succ]
  refine tk11 (v := .bool false) (by kernel_rfl) (by kernel_rfl) (by kernel_rfl) (fun _ _ _ h => h) X.out (Or.inl ⟨by rfl, fun w hw => by go_simp; try (with_reducible rfl)⟩) ?_
  simp only [Act.put, List.setIfInBounds_toArray, List.set_cons_zero, List.set_cons_succ]
  refine tk12 (v := .bool false) (by kernel_rfl) (by kernel_rfl) (by kernel_rfl) (fun _ _ _ h => h) X.out (Or.inl ⟨by rfl, fun w hw => by go_simp; try (with_reducible rfl)⟩) ?_
  simp only [Act.put, List.setIfInBounds_toArray, List.set_cons_zero, List.set_cons_succ]
  refine tk13 (by kernel_rfl) (by kernel_rfl) (by kernel_rfl) (fun _ _ _ h => h) X.out (yieldsIf_load_mid (by rfl) _ _ rfl gb (0) rfl ([.int .u32 x.i, .int .u8 x.t, .int .u8 x.o, .int .u64 (lm x.a 0), .int .u64 (lm x.a 1), .int .u64 (lm x.a 2), .int .u64 (lm x.a 3)]) _ (fun _ hw => hw.box.range) Tryd.underlying27 rfl (by kernel_rfl)) ?_
  simp only [Act.put, List.setIfInBounds_toArray, List.set_cons_zero, List.set_cons_succ]
  refine tk15 (by kernel_rfl) (by kernel_rfl) (by kernel_rfl) (fun _ _ _ h => h) X.out (yieldsIf_load_mid (by rfl) _ _ rfl gb (0) rfl ([.int .u32 x.i, .int .u8 x.t, .int .u8 x.o, .int .u64 (lm x.a 0), .int .u64 (lm x.a 1), .int .u64 (lm x.a 2), .int .u64 (lm x.a 3)]) _ (fun _ hw => hw.box.range) Tryd.underlying27 rfl (by kernel_rfl)) ?_
  simp only [Act.put, List.setIfInBounds_toArray, List.set_cons_zero, List.set_cons_succ]
  refine wpAnyH_ready (rs := [14]) (by kernel_rfl) (by simp) ?_
  refine rd14 (fun K hK => ?_) AllReadyH.nil
  go_simp
  refine (C14.out _ X.out).mono ?_
  rintro e w6 ⟨rfl, hb⟩
  simp only []
  replace X := hide (X.out.after hb)
  clear hb
  refine hK.out _ _ X.out (fun _ => ?_)
  clear hK K
  refine wpAnyH_ready (rs := [16]) (by kernel_rfl) (by simp) ?_
  refine rd16 (fun K hK => ?_) AllReadyH.nil
  go_simp
  refine (C16.out _ X.out).mono ?_
  rintro e w6 ⟨rfl, hb⟩
  simp only []
  replace X := hide (X.out.after hb)
  clear hb
  refine hK.out _ _ X.out (fun _ => ?_)
  clear hK K
  refine tk17 (v := .bool false) (by kernel_rfl) (by kernel_rfl) (by kernel_rfl) (fun _ _ _ h => h) X.out (Or.inl ⟨by rfl, fun w hw => by go_simp; try (with_reducible rfl)⟩) ?_
  simp only [Act.put, List.setIfInBounds_toArray, List.set_cons_zero, List.set_cons_succ]
  refine tk18 (v := .bool false) (by kernel_rfl) (by kernel_rfl) (by kernel_rfl) (fun _ _ _ h => h) X.out (Or.inl ⟨by rfl, fun w hw => by go_simp; try (with_reducible rfl)⟩) ?_
  simp only [Act.put, List.setIfInBounds_toArray, List.set_cons_zero, List.set_cons_succ]
  refine wpAnyH_done (by kernel_rfl) ?_ _
  clear hs1 hs2 C3 C7 C9 C14 C16 HST T1 T2
  generalize w6 = w8 at *
  obtain ⟨p0, p1, p2, p3, p4, p5, p6, p7, p8⟩ := X.out.box
  go_wp2_with fail
  clear p0 p1 p2 p3 p4 p5 p6 p7 p8
  refine (may_any x HX.out _).mono ?_
  rintro e w9 ⟨rfl, hb⟩
  replace X := hide (X.out.after hb)
  clear hb
  have CH := hide (check_any x HX.out)
  cases hm : may x
  · obtain ⟨hy, rfl⟩ := RO.out.2 hm
    have hc : chk x = 6 := by unfold chk; rw [if_neg (by rw [hm]; decide)]
    rw [hc] at CH
    obtain ⟨hs1, hs2, hs3, hs4⟩ := no7p hy
    clear RO hm hy hc
    obtain ⟨p0, p1, p2, p3, p4, p5, p6, p7, p8⟩ := X.out.box
    go_wp2_with fail
    clear p0 p1 p2 p3 p4 p5 p6 p7 p8
    refine (CH.out _).mono ?_
    rintro e w10 ⟨rfl, hb⟩
    replace X := hide (X.out.after hb)
    clear hb CH
    obtain ⟨q0, q1, q2, q3, q4, q5, q6, q7, q8⟩ := X.out.b4
    go_wp2
    go_ret
    exact ⟨rfl, X.out.below⟩
  · obtain ⟨hy, rfl⟩ := RO.out.1 hm
    have hc : chk x = 0 := by unfold chk; rw [if_pos hm]
    rw [hc] at CH
    clear RO hm hc
    subst hy
    have hs4 := same4_me y.a
    obtain ⟨p0, p1, p2, p3, p4, p5, p6, p7, p8⟩ := X.out.box
    go_wp2_with fail
    clear p0 p1 p2 p3 p4 p5 p6 p7 p8
    refine (CH.out _).mono ?_
    rintro e w10 ⟨rfl, hb⟩
    replace X := hide (X.out.after hb)
    clear hb CH
    obtain ⟨p0, p1, p2, p3, p4, p5, p6, p7, p8⟩ := X.out.box
    obtain ⟨q0, q1, q2, q3, q4, q5, q6, q7, q8⟩ := X.out.b4
    go_wp2
    go_ret
    exact ⟨rfl, X.out.below⟩
end Go.Proofs.YthcahgfoganehaaDoor
