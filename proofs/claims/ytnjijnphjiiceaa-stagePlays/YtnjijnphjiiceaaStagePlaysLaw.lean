/- StagePlays: behind any deeds on two maps of one journal, both are the document's. -/
import Derived.Test.YtnjijnphjiiceaaStgPlay2
import Derived.Test.YtnjijnphjiiceaaFrameStg
import Derived.Test.YtnjijnphjiiceaaHand
namespace Go.Proofs.Ytnjijnphjiiceaa
set_option linter.unusedSimpArgs false
set_option linter.unusedVariables false
set_option linter.unusedSectionVars false
open Go.RowKit Go.Lib
attribute [local go_sem] setCell_drewN alloc_drewN

set_option maxRecDepth 100000 in
set_option maxHeartbeats 8000000 in
theorem stagePlays_walk (ao : Option Addr) (cap : Nat) (xs : List AcS) (k m : Int) (w : World) (hargs : xs.length ≤ cap ∧ cap ≤ maxLen ∧ ActsS w ao xs ∧ ∀ x ∈ xs, AcS.Ok x) (wk : (Lit.int .i64 k).wf = true) (wm : (Lit.int .i64 m).wf = true) :
    Calls Try.prog 3 #[.slice ao xs.length cap, .int .i64 k, .int .i64 m] w fun e w' => e = .returned (.bool true) ∧ Below w.heap.size w w' := by
  obtain ⟨hcap, _, hacts, hok⟩ := hargs
  obtain ⟨i0, hi, hz0, hz1, hz2⟩ := info_parts infoArrS
  have HA := hide hacts
  have HOK := hide hok
  have hm2 := (Go.bounds_i64 wm).2
  clear hacts hok
  by_cases hlen : xs.length ≤ 60
  · have d0 : decide ((60 : Int) < (xs.length : Int)) = false := decide_eq_false (by omega)
    go_enter Try.func3, Try.ntmps3
    go_wp2_with fail
    refine (lives12_any w).mono ?_
    rintro e w1 ⟨rfl, b1⟩
    have B1 := hide b1
    have A1 := hide (HA.out.below b1)
    clear b1
    have C := hide (snew_any (St.laid w1 27))
    go_wp2_with fail
    refine C.out.mono ?_
    clear C
    rintro e w2 ⟨rfl, -, S1, Z1, mb1, q1, q2⟩
    obtain ⟨a0, ha0⟩ : ∃ a0, (w1.alloc (.cells #[.slice none 0 0] 27)).heap.size + 1 = a0 := ⟨_, rfl⟩
    rw [ha0] at q1 ⊢
    obtain ⟨b2, hO⟩ := q2.go (bAl (o := .cells #[.slice none 0 0] 27) (bMe w1)) (fun k hk => by omega)
    have hl0 := q1.low _ (q1.stat _ (q1.box a0 (by simp)).1)
    have C := hide (snew_any q1)
    have B2 := hide b2
    have HO := hide hO
    clear q1 q2 b2 hO ha0
    go_wp2_with fail
    refine C.out.mono ?_
    clear C
    rintro e w3 ⟨rfl, -, S2, Z2, mb2, q1, q2⟩
    obtain ⟨a1, ha1⟩ : ∃ a1, w2.heap.size + 1 = a1 := ⟨_, rfl⟩
    have hne : a0 ≠ a1 := by omega
    rw [ha1] at q1 ⊢
    obtain ⟨b3, hO⟩ := q2.go B2.out HO.out
    obtain ⟨X, hX⟩ : ∃ X : Nat → Kvs, upX (upX (fun _ => ([] : Kvs)) a0 []) a1 [] = X := ⟨_, rfl⟩
    have xe : ∀ b, X b = [] := fun b => by
      rw [← hX]
      by_cases e : b = a1
      · rw [e, upX_same]
      · rw [upX_other _ e]
        by_cases e : b = a0
        · rw [e, upX_same]
        · rw [upX_other _ e]
    rw [hX] at q1
    have Q3 := hide q1
    have B3 := hide b3
    have HO3 := hide hO
    have HX := hide xe
    clear q1 q2 b3 hO hX xe hl0 ha1 B2 HO
    go_wp2
    obtain ⟨wL, hwL⟩ : ∃ wL, ((w3.alloc (.cells #[.pointer (some ⟨a0, 0, none⟩), .pointer (some ⟨a1, 0, none⟩)] 31)).alloc (.cells #[.slice none 0 0, .slice none 0 0] 33)).alloc (.cells #[] 33) = wL := ⟨_, rfl⟩
    rw [hwL]
    obtain ⟨gm, hgm⟩ : ∃ gm, w3.heap.size = gm := ⟨_, rfl⟩
    obtain ⟨gn, hgn⟩ : ∃ gn, gm + 1 = gn := ⟨_, rfl⟩
    rw [hgm, hgn]
    have bL : Below w3.heap.size w3 wL := by rw [← hwL]; exact bAl (bAl (bAl (bMe w3)))
    have P0 : Hid (Play w1 wL gm gn w1.heap.size a0 a1 X [] (.slice (some ⟨gn + 1, 0, none⟩) 0 0)) := by
      refine ⟨S2, Z2, mb2, fun _ => False, [], .slice none 0 0, .slice none 0 0, Q3.out.below bL, ⟨?_, ?_, ?_, ?_, ?_, ?_, ?_, ?_, ?_, ?_, ?_, ?_, ?_, ?_⟩, HO3.out, B3.out.trans (bL.mono B3.out.size)⟩
      · rw [← hwL, ← hgm]; simp [go_sem]
      · rw [← hwL, ← hgm]; simp [go_sem]
      · rw [← hwL, ← hgn, ← hgm]; simp [go_sem]
      · rw [← hwL, ← hgn, ← hgm]; simp [go_sem]
      · intro o; rw [← hwL, ← hgn, ← hgm]; simp [go_sem]
      · rw [HX.out]; exact ⟨World.ownsRow_nil _ _ _ _, fun k hk => by simp [Value.ownBlock] at hk⟩
      · rw [HX.out]; exact ⟨World.ownsRow_nil _ _ _ _, fun k hk => by simp [Value.ownBlock] at hk⟩
      · refine ⟨rfl, .inr ⟨gn + 1, 0, #[], rfl, by have := B3.out.size; omega, ?_, Nat.le_refl _, Nat.zero_le _, rfl, rfl⟩⟩
        rw [← hwL, ← hgn, ← hgm]
        have := heap_alloc_new ((w3.alloc (.cells #[.pointer (some ⟨a0, 0, none⟩), .pointer (some ⟨a1, 0, none⟩)] 31)).alloc (.cells #[.slice none 0 0, .slice none 0 0] 33)) (.cells #[] 33)
        rwa [World.size_alloc, World.size_alloc] at this
      · rfl
      · intro i u hu; simp at hu
      · intro k hk; exact hk.elim
      · have hz : wL.heap.size = gm + 3 := by rw [← hwL, ← hgm]; simp
        exact ⟨fun e => by have := Q3.out.low _ e; omega, fun e => by have := Q3.out.low _ e; omega, by omega, by omega, by omega⟩
      · intro k hk
        simp only [Value.ownBlock, Option.some.injEq] at hk
        subst hk
        exact ⟨fun e => by have := Q3.out.low _ e; omega, by omega, by omega⟩
      · have := B3.out.size; omega
    have HK : Hid (KW X) := fun b p hp => by rw [HX.out b] at hp; simp at hp
    have hXl : ∀ b, (X b).length + ([] : Deeds).length ≤ 2 * 0 := fun b => by rw [HX.out b]; simp
    have HXL := hide hXl
    clear Q3 B3 HO3 HX hwL hgm hgn bL hXl
    go_loopw [10, 40] (fun vw i wr => ∃ c : Nat, c ≤ xs.length ∧ i = .int .i64 c ∧ ∃ Y ds, Play w1 wr gm gn w1.heap.size a0 a1 Y ds vw ∧ KW Y ∧ ∀ b, (Y b).length + ds.length ≤ 2 * c) (fun _ i _ => xs.length - (intOf i).toNat)
    case atStart => exact ⟨0, Nat.zero_le _, rfl, X, [], P0.out, HK.out, HXL.out⟩
    case round =>
      obtain ⟨c, hc, rfl, Y, ds, hp, hk, hl⟩ := hrel
      by_cases hlt : c < xs.length
      · have hx : xs[c]? = some xs[c] := List.getElem?_eq_getElem hlt
        have hxo := HOK.out xs[c] (List.getElem_mem hlt)
        obtain ⟨b, off, rfl, hbl, c0, c1, c2, c3⟩ := (A1.out.below hp.bel).get hx
        generalize xs[c] = x at *
        obtain ⟨xk, xK, xV, xN⟩ := x
        obtain ⟨⟨k0, k1⟩, wK, wV, wN⟩ := hxo
        simp only at c0 c1 c2 c3 k0 k1 wK wV wN
        obtain ⟨v0, v1, r0⟩ := hp.start ⟨xk, xK, xV, xN⟩ 36
        simp only at r0
        have R0 := hide r0
        have KX := hide hk
        have HL := hide hl
        have hl0 := hl a0
        have hl1 := hl a1
        clear hx hp r0 hk hl
        go_upto_region 10 with fail
        clear c0 c1 c2 c3
        generalize (wr.alloc (.cells #[.int .u8 xk, .int .i64 xK, .int .i64 xV, .int .i64 xN] 36)) = wA at *
        obtain ⟨ga, hga⟩ : ∃ ga, wr.heap.size = ga := ⟨_, rfl⟩
        rw [hga] at R0 ⊢
        clear hga
        have hRl := hisL_length a0 a1 Y ds
        obtain ⟨R, hR⟩ : ∃ R, hisL a0 a1 Y ds = R := ⟨_, rfl⟩
        rw [hR] at R0 hRl
        obtain ⟨aw, capw, rfl, hcw⟩ := R0.out.form
        obtain ⟨ao0, cap0, rfl, _, _, _⟩ := R0.out.row0
        obtain ⟨ao1, cap1, rfl, _, _, _⟩ := R0.out.row1
        rw [hRl] at R0 hcw ⊢
        have HR := hide hR
        have HRL := hide hRl
        clear hR hRl
        obtain ⟨⟨m0, m1⟩, ⟨n0, n1, f0, f1⟩, c0, c1, c2, c3⟩ := R0.out.cells
        obtain ⟨t1, t2, t3, t4, t5⟩ := R0.out.apart
        have hcase : xk % 6 = 0 ∨ xk % 6 = 1 ∨ xk % 6 = 2 ∨ xk % 6 = 3 ∨ xk % 6 = 4 ∨ xk % 6 = 5 := by omega
        rcases hcase with h6 | h6 | h6 | h6 | h6 | h6
        · have h2 : xk % 2 = 0 := by omega
          obtain ⟨ys, hyl, hrow, hmore⟩ := R0.out.more
          rw [HRL.out] at hrow hmore
          have hcell := R0.out.cell2
          go_wp2_with (at_builtin; refine wpList_append_own_at _ rfl _ _ 34 rfl w1.heap.size 33 i0 (.agg #[.slice none 0 0, .slice none 0 0]) 2 48 Try.underlying34 hi hz0 hz1 hz2 rfl (by decide) (.slice aw ds.length capw) ds.length ys rfl (hrow.alloc _) ⟨wA.heap.size, 0, none⟩ 1 1 [_, _] rfl rfl (cell_two_new _ _ _ _) hcell (by unfold maxLen; omega) (by omega) (by have := R0.out.bel.size; simp; omega) ?_; intro vw5 w5 r1 r2 _ r4; have R5 := hide (hmore w5 vw5 _ r1 r2 r4); obtain ⟨aw5, capw5, rfl, hcw5⟩ := R5.out.form; rw [show (R ++ [(Y a0, Y a1)]).length = ds.length + 1 by simp [HRL.out]] at R5 hcw5 ⊢; clear m0 m1 n0 n1 f0 f1 c0 c1 c2 c3; obtain ⟨⟨m0, m1⟩, ⟨n0, n1, f0, f1⟩, c0, c1, c2, c3⟩ := R5.out.cells; clear r1 r2 r4)
          have X : Hid (w5.cell? ⟨ga, 1, none⟩ = some (.int .i64 xK) ∧ w5.cell? ⟨ga, 2, none⟩ = some (.int .i64 xV)) := hide ⟨c1, c2⟩
          have RD := R5.out.below (w' := w5.drew) (bMe w5).drew
          have C := hide (RD.rset0 (RD.srt a0) (by omega) xK xV)
          clear RD hyl hcell hrow hmore
          refine wp_region_held_drew (S := fun w1 => w1.cell? ⟨ga, 1, none⟩ = some (.int .i64 xK) ∧ w1.cell? ⟨ga, 2, none⟩ = some (.int .i64 xV)) (by kernel_rfl) X.out (fun _ => ?_)
          refine tk0 (v := .int .i64 0) (by kernel_rfl) (by kernel_rfl) (by kernel_rfl) (fun _ _ _ h => h) X.out (Or.inl ⟨by rfl, fun w hw => by go_simp; try (with_reducible rfl)⟩) ?_
          simp only [Act.put, List.setIfInBounds_toArray, List.set_cons_zero, List.set_cons_succ]
          refine tk1 (v := .int .i64 0) (by kernel_rfl) (by kernel_rfl) (by kernel_rfl) (fun _ _ _ h => h) X.out (Or.inl ⟨by rfl, fun w hw => by go_simp; try (with_reducible rfl)⟩) ?_
          simp only [Act.put, List.setIfInBounds_toArray, List.set_cons_zero, List.set_cons_succ]
          refine tk2 (v := .pointer (some ⟨gn, 0, none⟩)) (by kernel_rfl) (by kernel_rfl) (by kernel_rfl) (fun _ _ _ h => h) X.out (Or.inl ⟨by rfl, fun w hw => by go_simp; try (with_reducible rfl)⟩) ?_
          simp only [Act.put, List.setIfInBounds_toArray, List.set_cons_zero, List.set_cons_succ]
          refine tk4 (v := .pointer (some ⟨ga, 1, none⟩)) (by kernel_rfl) (by kernel_rfl) (by kernel_rfl) (fun _ _ _ h => h) X.out (Or.inl ⟨by rfl, fun w hw => by go_simp; try (with_reducible rfl)⟩) ?_
          simp only [Act.put, List.setIfInBounds_toArray, List.set_cons_zero, List.set_cons_succ]
          refine tk5 (v := .int .i64 xK) (by kernel_rfl) (by kernel_rfl) (by kernel_rfl) (fun _ _ _ h => h) X.out (Or.inl ⟨by rfl, fun w hw => by have h1 := hw.1; go_simp; try (with_reducible rfl)⟩) ?_
          simp only [Act.put, List.setIfInBounds_toArray, List.set_cons_zero, List.set_cons_succ]
          refine tk6 (v := .pointer (some ⟨ga, 2, none⟩)) (by kernel_rfl) (by kernel_rfl) (by kernel_rfl) (fun _ _ _ h => h) X.out (Or.inl ⟨by rfl, fun w hw => by go_simp; try (with_reducible rfl)⟩) ?_
          simp only [Act.put, List.setIfInBounds_toArray, List.set_cons_zero, List.set_cons_succ]
          refine tk7 (v := .int .i64 xV) (by kernel_rfl) (by kernel_rfl) (by kernel_rfl) (fun _ _ _ h => h) X.out (Or.inl ⟨by rfl, fun w hw => by have h1 := hw.2; go_simp; try (with_reducible rfl)⟩) ?_
          simp only [Act.put, List.setIfInBounds_toArray, List.set_cons_zero, List.set_cons_succ]
          refine wpAnyH_ready (rs := [3]) (by kernel_rfl) (by simp) ?_
          refine rd3 (fun K hK => ?_) AllReadyH.nil
          go_simp
          refine hK.out _ _ X.out (fun _ => ?_)
          clear hK K
          refine wpAnyH_ready (rs := [8]) (by kernel_rfl) (by simp) ?_
          refine rd8 (fun K hK => ?_) AllReadyH.nil
          go_simp
          refine C.out.mono ?_
          clear C
          rintro e w6 ⟨ao6, cap6, rfl, r6⟩
          simp only []
          have R6 := hide r6
          clear r6
          clear m0 m1 n0 n1 f0 f1 c0 c1 c2 c3
          obtain ⟨⟨m0, m1⟩, ⟨n0, n1, f0, f1⟩, c0, c1, c2, c3⟩ := R6.out.cells
          replace X : Hid (w6.cell? ⟨ga, 1, none⟩ = some (.int .i64 xK) ∧ w6.cell? ⟨ga, 2, none⟩ = some (.int .i64 xV)) := hide ⟨c1, c2⟩
          refine hK.out _ _ X.out (fun _ => ?_)
          clear hK K
          refine tk9 (v := .pointer (some ⟨gn, 0, none⟩)) (by kernel_rfl) (by kernel_rfl) (by kernel_rfl) (fun _ _ _ h => h) X.out (Or.inl ⟨by rfl, fun w hw => by go_simp; try (with_reducible rfl)⟩) ?_
          simp only [Act.put, List.setIfInBounds_toArray, List.set_cons_zero, List.set_cons_succ]
          refine wpAnyH_ready (rs := [10]) (by kernel_rfl) (by simp) ?_
          refine rd10 (fun K hK => ?_) AllReadyH.nil
          go_simp
          have R7 := hide (R6.out.put0 (List.Mem.head _)).less
          generalize w6.setCell ⟨gn, 0, none⟩ _ = w7 at *
          clear m0 m1 n0 n1 f0 f1 c0 c1 c2 c3
          obtain ⟨⟨m0, m1⟩, ⟨n0, n1, f0, f1⟩, c0, c1, c2, c3⟩ := R7.out.cells
          replace X : Hid (w7.cell? ⟨ga, 1, none⟩ = some (.int .i64 xK) ∧ w7.cell? ⟨ga, 2, none⟩ = some (.int .i64 xV)) := hide ⟨c1, c2⟩
          refine hK.out _ _ X.out (fun _ => ?_)
          clear hK K
          refine wpAnyH_done (by kernel_rfl) ?_ _
          clear X R6 R5
          go_wp2
          have X : Hid (CR gm gn ga a0 a1 (.slice ao6 (putL kyInt xK xV (Y a0)).length cap6) (.slice ao1 (Y a1).length cap1) ⟨xk, xK, xV, xN⟩ w7.drew) := hide (R7.out.below (w' := w7.drew) (bMe w7).drew).cr
          have C := hide ((R7.out.below (w' := w7.drew) (bMe w7).drew).set0 (V := xV) wK (by omega) (by omega))
          have HS : Hid (∀ a, Srt kyInt (Y a)) := fun a => R7.out.srt a
          refine wp_region_held_drew (S := fun w1 => CR gm gn ga a0 a1 (.slice ao6 (putL kyInt xK xV (Y a0)).length cap6) (.slice ao1 (Y a1).length cap1) ⟨xk, xK, xV, xN⟩ w1) (by kernel_rfl) X.out (fun _ => ?_)
          refine tk0 (v := .int .i64 0) (by kernel_rfl) (by kernel_rfl) (by kernel_rfl) (fun _ _ _ h => h) X.out (Or.inl ⟨by rfl, fun w hw => by go_simp; try (with_reducible rfl)⟩) ?_
          simp only [Act.put, List.setIfInBounds_toArray, List.set_cons_zero, List.set_cons_succ]
          refine tk1 (v := .pointer (some ⟨gm, 0, none⟩)) (by kernel_rfl) (by kernel_rfl) (by kernel_rfl) (fun _ _ _ h => h) X.out (Or.inl ⟨by rfl, fun w hw => by go_simp; try (with_reducible rfl)⟩) ?_
          simp only [Act.put, List.setIfInBounds_toArray, List.set_cons_zero, List.set_cons_succ]
          refine tk2 (v := .pointer (some ⟨a0, 0, none⟩)) (by kernel_rfl) (by kernel_rfl) (by kernel_rfl) (fun _ _ _ h => h) X.out (Or.inl ⟨by rfl, fun w hw => by have h1 := hw.m0; go_simp; try (with_reducible rfl)⟩) ?_
          simp only [Act.put, List.setIfInBounds_toArray, List.set_cons_zero, List.set_cons_succ]
          refine tk3 (v := .pointer (some ⟨ga, 1, none⟩)) (by kernel_rfl) (by kernel_rfl) (by kernel_rfl) (fun _ _ _ h => h) X.out (Or.inl ⟨by rfl, fun w hw => by go_simp; try (with_reducible rfl)⟩) ?_
          simp only [Act.put, List.setIfInBounds_toArray, List.set_cons_zero, List.set_cons_succ]
          refine tk4 (v := .int .i64 xK) (by kernel_rfl) (by kernel_rfl) (by kernel_rfl) (fun _ _ _ h => h) X.out (Or.inl ⟨by rfl, fun w hw => by have h1 := hw.c1; go_simp; try (with_reducible rfl)⟩) ?_
          simp only [Act.put, List.setIfInBounds_toArray, List.set_cons_zero, List.set_cons_succ]
          refine tk5 (v := .pointer (some ⟨ga, 2, none⟩)) (by kernel_rfl) (by kernel_rfl) (by kernel_rfl) (fun _ _ _ h => h) X.out (Or.inl ⟨by rfl, fun w hw => by go_simp; try (with_reducible rfl)⟩) ?_
          simp only [Act.put, List.setIfInBounds_toArray, List.set_cons_zero, List.set_cons_succ]
          refine tk6 (v := .int .i64 xV) (by kernel_rfl) (by kernel_rfl) (by kernel_rfl) (fun _ _ _ h => h) X.out (Or.inl ⟨by rfl, fun w hw => by have h1 := hw.c2; go_simp; try (with_reducible rfl)⟩) ?_
          simp only [Act.put, List.setIfInBounds_toArray, List.set_cons_zero, List.set_cons_succ]
          refine wpAnyH_ready (rs := [7]) (by kernel_rfl) (by simp) ?_
          refine rd7 (fun K hK => ?_) AllReadyH.nil
          go_simp
          refine C.out.mono ?_
          clear C
          rintro e w8 ⟨rfl, r8⟩
          simp only []
          have R8 := hide r8
          clear r8 R7
          clear m0 m1 n0 n1 f0 f1 c0 c1 c2 c3
          obtain ⟨⟨m0, m1⟩, ⟨n0, n1, f0, f1⟩, c0, c1, c2, c3⟩ := R8.out.cells
          replace X := hide R8.out.cr
          refine hK.out _ _ X.out (fun _ => ?_)
          clear hK K
          refine wpAnyH_done (by kernel_rfl) ?_ _
          clear X
          obtain ⟨Y', hY'⟩ : ∃ Y', upX Y a0 (putL kyInt xK xV (Y a0)) = Y' := ⟨_, rfl⟩
          obtain ⟨ds', hds'⟩ : ∃ ds', ds ++ [⟨a0, xK, getL xK (Y a0)⟩] = ds' := ⟨_, rfl⟩
          have KX' : Hid (KW Y') := by show KW Y'; rw [← hY']; exact KX.out.put a0 wK
          have HL' : Hid (∀ b, (Y' b).length + ds'.length ≤ 2 * (c + 1)) := by
            intro b
            rw [← hY', ← hds']
            rw [List.length_append]; exact bound_up HL.out a0 (putL_length kyInt) b
          have hY0 : putL kyInt xK xV (Y a0) = Y' a0 := by rw [← hY']; rw [upX_same]
          have hY1 : Y a1 = Y' a1 := by rw [← hY']; rw [upX_other _ hne.symm]
          have hH : R ++ [(Y a0, Y a1)] = hisL a0 a1 Y' ds' := by rw [← hY', ← hds']; rw [hisL_snoc a0 a1 ds _ (undo_put kyInt Y a0 xK xV (HS.out a0)), HR.out]
          have hlen' : ds'.length = ds.length + 1 := by rw [← hds']; simp
          have R19 := R8.out
          rw [hY', hds', hH, hY0, hY1] at R19
          have HLEN := hide hlen'
          have R20 := hide R19
          clear hY' hds' hH hY0 hY1 hlen' R19 R8 
          clear m0 m1 n0 n1 f0 f1 c0 c1 c2 c3
          obtain ⟨⟨m0, m1⟩, ⟨n0, n1, f0, f1⟩, c0, c1, c2, c3⟩ := R20.out.cells
          have hl0' := HL'.out a0
          have hl1' := HL'.out a1
          have C := hide R20.out.mark
          rw [HLEN.out] at C
          go_wp2_with fail
          refine C.out.mono ?_
          clear C
          rintro e w20 ⟨rfl, rfl⟩
          have C := hide (R20.out.is0 rfl (by omega) KX'.out hm2)
          go_wp2_with fail
          refine C.out.mono ?_
          clear C
          rintro e w21 ⟨rfl, r21⟩
          have R21 := hide r21
          clear r21
          clear m0 m1 n0 n1 f0 f1 c0 c1 c2 c3
          obtain ⟨⟨m0, m1⟩, ⟨n0, n1, f0, f1⟩, c0, c1, c2, c3⟩ := R21.out.cells
          have C := hide (R21.out.is1 rfl (by omega) KX'.out hm2)
          go_wp2_with fail
          refine C.out.mono ?_
          clear C
          rintro e w22 ⟨rfl, r22⟩
          have R22 := hide r22
          clear r22
          clear m0 m1 n0 n1 f0 f1 c0 c1 c2 c3
          go_wp2
          go_roundw
          case rel => exact ⟨c + 1, by omega, by simp, Y', ds', R22.out.play, KX'.out, HL'.out⟩
          case measure => simp [intOf]; omega
        · have h2 : xk % 2 = 1 := by omega
          obtain ⟨ys, hyl, hrow, hmore⟩ := R0.out.more
          rw [HRL.out] at hrow hmore
          have hcell := R0.out.cell2
          go_wp2_with (at_builtin; refine wpList_append_own_at _ rfl _ _ 34 rfl w1.heap.size 33 i0 (.agg #[.slice none 0 0, .slice none 0 0]) 2 48 Try.underlying34 hi hz0 hz1 hz2 rfl (by decide) (.slice aw ds.length capw) ds.length ys rfl (hrow.alloc _) ⟨wA.heap.size, 0, none⟩ 1 1 [_, _] rfl rfl (cell_two_new _ _ _ _) hcell (by unfold maxLen; omega) (by omega) (by have := R0.out.bel.size; simp; omega) ?_; intro vw5 w5 r1 r2 _ r4; have R5 := hide (hmore w5 vw5 _ r1 r2 r4); obtain ⟨aw5, capw5, rfl, hcw5⟩ := R5.out.form; rw [show (R ++ [(Y a0, Y a1)]).length = ds.length + 1 by simp [HRL.out]] at R5 hcw5 ⊢; clear m0 m1 n0 n1 f0 f1 c0 c1 c2 c3; obtain ⟨⟨m0, m1⟩, ⟨n0, n1, f0, f1⟩, c0, c1, c2, c3⟩ := R5.out.cells; clear r1 r2 r4)
          have X : Hid (w5.cell? ⟨ga, 1, none⟩ = some (.int .i64 xK) ∧ w5.cell? ⟨ga, 2, none⟩ = some (.int .i64 xV)) := hide ⟨c1, c2⟩
          have RD := R5.out.below (w' := w5.drew) (bMe w5).drew
          have C := hide (RD.rset1 (RD.srt a1) (by omega) xK xV)
          clear RD hyl hcell hrow hmore
          refine wp_region_held_drew (S := fun w1 => w1.cell? ⟨ga, 1, none⟩ = some (.int .i64 xK) ∧ w1.cell? ⟨ga, 2, none⟩ = some (.int .i64 xV)) (by kernel_rfl) X.out (fun _ => ?_)
          refine tk0 (v := .int .i64 1) (by kernel_rfl) (by kernel_rfl) (by kernel_rfl) (fun _ _ _ h => h) X.out (Or.inl ⟨by rfl, fun w hw => by go_simp; try (with_reducible rfl)⟩) ?_
          simp only [Act.put, List.setIfInBounds_toArray, List.set_cons_zero, List.set_cons_succ]
          refine tk1 (v := .int .i64 1) (by kernel_rfl) (by kernel_rfl) (by kernel_rfl) (fun _ _ _ h => h) X.out (Or.inl ⟨by rfl, fun w hw => by go_simp; try (with_reducible rfl)⟩) ?_
          simp only [Act.put, List.setIfInBounds_toArray, List.set_cons_zero, List.set_cons_succ]
          refine tk2 (v := .pointer (some ⟨gn, 1, none⟩)) (by kernel_rfl) (by kernel_rfl) (by kernel_rfl) (fun _ _ _ h => h) X.out (Or.inl ⟨by rfl, fun w hw => by go_simp; try (with_reducible rfl)⟩) ?_
          simp only [Act.put, List.setIfInBounds_toArray, List.set_cons_zero, List.set_cons_succ]
          refine tk4 (v := .pointer (some ⟨ga, 1, none⟩)) (by kernel_rfl) (by kernel_rfl) (by kernel_rfl) (fun _ _ _ h => h) X.out (Or.inl ⟨by rfl, fun w hw => by go_simp; try (with_reducible rfl)⟩) ?_
          simp only [Act.put, List.setIfInBounds_toArray, List.set_cons_zero, List.set_cons_succ]
          refine tk5 (v := .int .i64 xK) (by kernel_rfl) (by kernel_rfl) (by kernel_rfl) (fun _ _ _ h => h) X.out (Or.inl ⟨by rfl, fun w hw => by have h1 := hw.1; go_simp; try (with_reducible rfl)⟩) ?_
          simp only [Act.put, List.setIfInBounds_toArray, List.set_cons_zero, List.set_cons_succ]
          refine tk6 (v := .pointer (some ⟨ga, 2, none⟩)) (by kernel_rfl) (by kernel_rfl) (by kernel_rfl) (fun _ _ _ h => h) X.out (Or.inl ⟨by rfl, fun w hw => by go_simp; try (with_reducible rfl)⟩) ?_
          simp only [Act.put, List.setIfInBounds_toArray, List.set_cons_zero, List.set_cons_succ]
          refine tk7 (v := .int .i64 xV) (by kernel_rfl) (by kernel_rfl) (by kernel_rfl) (fun _ _ _ h => h) X.out (Or.inl ⟨by rfl, fun w hw => by have h1 := hw.2; go_simp; try (with_reducible rfl)⟩) ?_
          simp only [Act.put, List.setIfInBounds_toArray, List.set_cons_zero, List.set_cons_succ]
          refine wpAnyH_ready (rs := [3]) (by kernel_rfl) (by simp) ?_
          refine rd3 (fun K hK => ?_) AllReadyH.nil
          go_simp
          refine hK.out _ _ X.out (fun _ => ?_)
          clear hK K
          refine wpAnyH_ready (rs := [8]) (by kernel_rfl) (by simp) ?_
          refine rd8 (fun K hK => ?_) AllReadyH.nil
          go_simp
          refine C.out.mono ?_
          clear C
          rintro e w6 ⟨ao6, cap6, rfl, r6⟩
          simp only []
          have R6 := hide r6
          clear r6
          clear m0 m1 n0 n1 f0 f1 c0 c1 c2 c3
          obtain ⟨⟨m0, m1⟩, ⟨n0, n1, f0, f1⟩, c0, c1, c2, c3⟩ := R6.out.cells
          replace X : Hid (w6.cell? ⟨ga, 1, none⟩ = some (.int .i64 xK) ∧ w6.cell? ⟨ga, 2, none⟩ = some (.int .i64 xV)) := hide ⟨c1, c2⟩
          refine hK.out _ _ X.out (fun _ => ?_)
          clear hK K
          refine tk9 (v := .pointer (some ⟨gn, 1, none⟩)) (by kernel_rfl) (by kernel_rfl) (by kernel_rfl) (fun _ _ _ h => h) X.out (Or.inl ⟨by rfl, fun w hw => by go_simp; try (with_reducible rfl)⟩) ?_
          simp only [Act.put, List.setIfInBounds_toArray, List.set_cons_zero, List.set_cons_succ]
          refine wpAnyH_ready (rs := [10]) (by kernel_rfl) (by simp) ?_
          refine rd10 (fun K hK => ?_) AllReadyH.nil
          go_simp
          have R7 := hide (R6.out.put1 (List.Mem.head _)).less
          generalize w6.setCell ⟨gn, 1, none⟩ _ = w7 at *
          clear m0 m1 n0 n1 f0 f1 c0 c1 c2 c3
          obtain ⟨⟨m0, m1⟩, ⟨n0, n1, f0, f1⟩, c0, c1, c2, c3⟩ := R7.out.cells
          replace X : Hid (w7.cell? ⟨ga, 1, none⟩ = some (.int .i64 xK) ∧ w7.cell? ⟨ga, 2, none⟩ = some (.int .i64 xV)) := hide ⟨c1, c2⟩
          refine hK.out _ _ X.out (fun _ => ?_)
          clear hK K
          refine wpAnyH_done (by kernel_rfl) ?_ _
          clear X R6 R5
          go_wp2
          have X : Hid (CR gm gn ga a0 a1 (.slice ao0 (Y a0).length cap0) (.slice ao6 (putL kyInt xK xV (Y a1)).length cap6) ⟨xk, xK, xV, xN⟩ w7.drew) := hide (R7.out.below (w' := w7.drew) (bMe w7).drew).cr
          have C := hide ((R7.out.below (w' := w7.drew) (bMe w7).drew).set1 (V := xV) wK (by omega) (by omega))
          have HS : Hid (∀ a, Srt kyInt (Y a)) := fun a => R7.out.srt a
          refine wp_region_held_drew (S := fun w1 => CR gm gn ga a0 a1 (.slice ao0 (Y a0).length cap0) (.slice ao6 (putL kyInt xK xV (Y a1)).length cap6) ⟨xk, xK, xV, xN⟩ w1) (by kernel_rfl) X.out (fun _ => ?_)
          refine tk0 (v := .int .i64 1) (by kernel_rfl) (by kernel_rfl) (by kernel_rfl) (fun _ _ _ h => h) X.out (Or.inl ⟨by rfl, fun w hw => by go_simp; try (with_reducible rfl)⟩) ?_
          simp only [Act.put, List.setIfInBounds_toArray, List.set_cons_zero, List.set_cons_succ]
          refine tk1 (v := .pointer (some ⟨gm, 1, none⟩)) (by kernel_rfl) (by kernel_rfl) (by kernel_rfl) (fun _ _ _ h => h) X.out (Or.inl ⟨by rfl, fun w hw => by go_simp; try (with_reducible rfl)⟩) ?_
          simp only [Act.put, List.setIfInBounds_toArray, List.set_cons_zero, List.set_cons_succ]
          refine tk2 (v := .pointer (some ⟨a1, 0, none⟩)) (by kernel_rfl) (by kernel_rfl) (by kernel_rfl) (fun _ _ _ h => h) X.out (Or.inl ⟨by rfl, fun w hw => by have h1 := hw.m1; go_simp; try (with_reducible rfl)⟩) ?_
          simp only [Act.put, List.setIfInBounds_toArray, List.set_cons_zero, List.set_cons_succ]
          refine tk3 (v := .pointer (some ⟨ga, 1, none⟩)) (by kernel_rfl) (by kernel_rfl) (by kernel_rfl) (fun _ _ _ h => h) X.out (Or.inl ⟨by rfl, fun w hw => by go_simp; try (with_reducible rfl)⟩) ?_
          simp only [Act.put, List.setIfInBounds_toArray, List.set_cons_zero, List.set_cons_succ]
          refine tk4 (v := .int .i64 xK) (by kernel_rfl) (by kernel_rfl) (by kernel_rfl) (fun _ _ _ h => h) X.out (Or.inl ⟨by rfl, fun w hw => by have h1 := hw.c1; go_simp; try (with_reducible rfl)⟩) ?_
          simp only [Act.put, List.setIfInBounds_toArray, List.set_cons_zero, List.set_cons_succ]
          refine tk5 (v := .pointer (some ⟨ga, 2, none⟩)) (by kernel_rfl) (by kernel_rfl) (by kernel_rfl) (fun _ _ _ h => h) X.out (Or.inl ⟨by rfl, fun w hw => by go_simp; try (with_reducible rfl)⟩) ?_
          simp only [Act.put, List.setIfInBounds_toArray, List.set_cons_zero, List.set_cons_succ]
          refine tk6 (v := .int .i64 xV) (by kernel_rfl) (by kernel_rfl) (by kernel_rfl) (fun _ _ _ h => h) X.out (Or.inl ⟨by rfl, fun w hw => by have h1 := hw.c2; go_simp; try (with_reducible rfl)⟩) ?_
          simp only [Act.put, List.setIfInBounds_toArray, List.set_cons_zero, List.set_cons_succ]
          refine wpAnyH_ready (rs := [7]) (by kernel_rfl) (by simp) ?_
          refine rd7 (fun K hK => ?_) AllReadyH.nil
          go_simp
          refine C.out.mono ?_
          clear C
          rintro e w8 ⟨rfl, r8⟩
          simp only []
          have R8 := hide r8
          clear r8 R7
          clear m0 m1 n0 n1 f0 f1 c0 c1 c2 c3
          obtain ⟨⟨m0, m1⟩, ⟨n0, n1, f0, f1⟩, c0, c1, c2, c3⟩ := R8.out.cells
          replace X := hide R8.out.cr
          refine hK.out _ _ X.out (fun _ => ?_)
          clear hK K
          refine wpAnyH_done (by kernel_rfl) ?_ _
          clear X
          obtain ⟨Y', hY'⟩ : ∃ Y', upX Y a1 (putL kyInt xK xV (Y a1)) = Y' := ⟨_, rfl⟩
          obtain ⟨ds', hds'⟩ : ∃ ds', ds ++ [⟨a1, xK, getL xK (Y a1)⟩] = ds' := ⟨_, rfl⟩
          have KX' : Hid (KW Y') := by show KW Y'; rw [← hY']; exact KX.out.put a1 wK
          have HL' : Hid (∀ b, (Y' b).length + ds'.length ≤ 2 * (c + 1)) := by
            intro b
            rw [← hY', ← hds']
            rw [List.length_append]; exact bound_up HL.out a1 (putL_length kyInt) b
          have hY0 : Y a0 = Y' a0 := by rw [← hY']; rw [upX_other _ hne]
          have hY1 : putL kyInt xK xV (Y a1) = Y' a1 := by rw [← hY']; rw [upX_same]
          have hH : R ++ [(Y a0, Y a1)] = hisL a0 a1 Y' ds' := by rw [← hY', ← hds']; rw [hisL_snoc a0 a1 ds _ (undo_put kyInt Y a1 xK xV (HS.out a1)), HR.out]
          have hlen' : ds'.length = ds.length + 1 := by rw [← hds']; simp
          have R19 := R8.out
          rw [hY', hds', hH, hY0, hY1] at R19
          have HLEN := hide hlen'
          have R20 := hide R19
          clear hY' hds' hH hY0 hY1 hlen' R19 R8 
          clear m0 m1 n0 n1 f0 f1 c0 c1 c2 c3
          obtain ⟨⟨m0, m1⟩, ⟨n0, n1, f0, f1⟩, c0, c1, c2, c3⟩ := R20.out.cells
          have hl0' := HL'.out a0
          have hl1' := HL'.out a1
          have C := hide R20.out.mark
          rw [HLEN.out] at C
          go_wp2_with fail
          refine C.out.mono ?_
          clear C
          rintro e w20 ⟨rfl, rfl⟩
          have C := hide (R20.out.is0 rfl (by omega) KX'.out hm2)
          go_wp2_with fail
          refine C.out.mono ?_
          clear C
          rintro e w21 ⟨rfl, r21⟩
          have R21 := hide r21
          clear r21
          clear m0 m1 n0 n1 f0 f1 c0 c1 c2 c3
          obtain ⟨⟨m0, m1⟩, ⟨n0, n1, f0, f1⟩, c0, c1, c2, c3⟩ := R21.out.cells
          have C := hide (R21.out.is1 rfl (by omega) KX'.out hm2)
          go_wp2_with fail
          refine C.out.mono ?_
          clear C
          rintro e w22 ⟨rfl, r22⟩
          have R22 := hide r22
          clear r22
          clear m0 m1 n0 n1 f0 f1 c0 c1 c2 c3
          go_wp2
          go_roundw
          case rel => exact ⟨c + 1, by omega, by simp, Y', ds', R22.out.play, KX'.out, HL'.out⟩
          case measure => simp [intOf]; omega
        · have h2 : xk % 2 = 0 := by omega
          cases hg : getL xK (Y a0) with
          | none =>
            have C := hide ((R0.out.below (w' := wA.drew) (bMe wA).drew).rdrop0 (by omega) xK)
            rw [delL_none hg, decide_eq_false (Nat.lt_irrefl _)] at C
            have HG := hide hg
            clear hg
            go_wp2
            have X : Hid (CR gm gn ga a0 a1 (.slice ao0 (Y a0).length cap0) (.slice ao1 (Y a1).length cap1) ⟨xk, xK, xV, xN⟩ wA.drew) := hide (R0.out.below (w' := wA.drew) (bMe wA).drew).cr
            refine wp_region_held_drew (S := fun w1 => CR gm gn ga a0 a1 (.slice ao0 (Y a0).length cap0) (.slice ao1 (Y a1).length cap1) ⟨xk, xK, xV, xN⟩ w1) (by kernel_rfl) X.out (fun _ => ?_)
            refine tk0 (v := .int .i64 0) (by kernel_rfl) (by kernel_rfl) (by kernel_rfl) (fun _ _ _ h => h) X.out (Or.inl ⟨by rfl, fun w hw => by go_simp; try (with_reducible rfl)⟩) ?_
            simp only [Act.put, List.setIfInBounds_toArray, List.set_cons_zero, List.set_cons_succ]
            refine tk1 (v := .pointer (some ⟨gn, 0, none⟩)) (by kernel_rfl) (by kernel_rfl) (by kernel_rfl) (fun _ _ _ h => h) X.out (Or.inl ⟨by rfl, fun w hw => by go_simp; try (with_reducible rfl)⟩) ?_
            simp only [Act.put, List.setIfInBounds_toArray, List.set_cons_zero, List.set_cons_succ]
            refine tk2 (v := .slice ao0 (Y a0).length cap0) (by kernel_rfl) (by kernel_rfl) (by kernel_rfl) (fun _ _ _ h => h) X.out (Or.inl ⟨by rfl, fun w hw => by have h1 := hw.n0; go_simp; try (with_reducible rfl)⟩) ?_
            simp only [Act.put, List.setIfInBounds_toArray, List.set_cons_zero, List.set_cons_succ]
            refine tk3 (v := .pointer (some ⟨ga, 1, none⟩)) (by kernel_rfl) (by kernel_rfl) (by kernel_rfl) (fun _ _ _ h => h) X.out (Or.inl ⟨by rfl, fun w hw => by go_simp; try (with_reducible rfl)⟩) ?_
            simp only [Act.put, List.setIfInBounds_toArray, List.set_cons_zero, List.set_cons_succ]
            refine tk4 (v := .int .i64 xK) (by kernel_rfl) (by kernel_rfl) (by kernel_rfl) (fun _ _ _ h => h) X.out (Or.inl ⟨by rfl, fun w hw => by have h1 := hw.c1; go_simp; try (with_reducible rfl)⟩) ?_
            simp only [Act.put, List.setIfInBounds_toArray, List.set_cons_zero, List.set_cons_succ]
            refine wpAnyH_ready (rs := [5]) (by kernel_rfl) (by simp) ?_
            refine rd5 (fun K hK => ?_) AllReadyH.nil
            go_simp
            refine C.out.mono ?_
            clear C
            rintro e w6 ⟨ao6, cap6, rfl, r6⟩
            simp only []
            have R6 := hide r6
            clear r6
            clear m0 m1 n0 n1 f0 f1 c0 c1 c2 c3
            obtain ⟨⟨m0, m1⟩, ⟨n0, n1, f0, f1⟩, c0, c1, c2, c3⟩ := R6.out.cells
            replace X := hide R6.out.cr
            refine hK.out _ _ X.out (fun _ => ?_)
            clear hK K
            refine tk6 (v := .tuple #[.slice ao6 (Y a0).length cap6, .bool false]) (by kernel_rfl) (by kernel_rfl) (by kernel_rfl) (fun _ _ _ h => h) X.out (Or.inl ⟨by rfl, fun w hw => by go_simp; try (with_reducible rfl)⟩) ?_
            simp only [Act.put, List.setIfInBounds_toArray, List.set_cons_zero, List.set_cons_succ]
            refine tk7 (v := .slice ao6 (Y a0).length cap6) (by kernel_rfl) (by kernel_rfl) (by kernel_rfl) (fun _ _ _ h => h) X.out (Or.inl ⟨by rfl, fun w hw => by go_simp; try (with_reducible rfl)⟩) ?_
            simp only [Act.put, List.setIfInBounds_toArray, List.set_cons_zero, List.set_cons_succ]
            refine tk8 (v := .bool false) (by kernel_rfl) (by kernel_rfl) (by kernel_rfl) (fun _ _ _ h => h) X.out (Or.inl ⟨by rfl, fun w hw => by go_simp; try (with_reducible rfl)⟩) ?_
            simp only [Act.put, List.setIfInBounds_toArray, List.set_cons_zero, List.set_cons_succ]
            refine tk9 (v := .slice ao6 (Y a0).length cap6) (by kernel_rfl) (by kernel_rfl) (by kernel_rfl) (fun _ _ _ h => h) X.out (Or.inl ⟨by rfl, fun w hw => by go_simp; try (with_reducible rfl)⟩) ?_
            simp only [Act.put, List.setIfInBounds_toArray, List.set_cons_zero, List.set_cons_succ]
            refine tk10 (v := .bool false) (by kernel_rfl) (by kernel_rfl) (by kernel_rfl) (fun _ _ _ h => h) X.out (Or.inl ⟨by rfl, fun w hw => by go_simp; try (with_reducible rfl)⟩) ?_
            simp only [Act.put, List.setIfInBounds_toArray, List.set_cons_zero, List.set_cons_succ]
            refine wpAnyH_done (by kernel_rfl) ?_ _
            clear X
            have C2 := hide ((R6.out.below (w' := w6.drew) (bMe w6).drew).dropNone0 wK HG.out)
            go_wp2
            have X : Hid (CR gm gn ga a0 a1 (.slice ao0 (Y a0).length cap0) (.slice ao1 (Y a1).length cap1) ⟨xk, xK, xV, xN⟩ w6.drew) := hide (R6.out.below (w' := w6.drew) (bMe w6).drew).cr
            refine wp_region_held_drew (S := fun w1 => CR gm gn ga a0 a1 (.slice ao0 (Y a0).length cap0) (.slice ao1 (Y a1).length cap1) ⟨xk, xK, xV, xN⟩ w1) (by kernel_rfl) X.out (fun _ => ?_)
            refine tk0 (v := .int .i64 0) (by kernel_rfl) (by kernel_rfl) (by kernel_rfl) (fun _ _ _ h => h) X.out (Or.inl ⟨by rfl, fun w hw => by go_simp; try (with_reducible rfl)⟩) ?_
            simp only [Act.put, List.setIfInBounds_toArray, List.set_cons_zero, List.set_cons_succ]
            refine tk1 (v := .pointer (some ⟨gm, 0, none⟩)) (by kernel_rfl) (by kernel_rfl) (by kernel_rfl) (fun _ _ _ h => h) X.out (Or.inl ⟨by rfl, fun w hw => by go_simp; try (with_reducible rfl)⟩) ?_
            simp only [Act.put, List.setIfInBounds_toArray, List.set_cons_zero, List.set_cons_succ]
            refine tk2 (v := .pointer (some ⟨a0, 0, none⟩)) (by kernel_rfl) (by kernel_rfl) (by kernel_rfl) (fun _ _ _ h => h) X.out (Or.inl ⟨by rfl, fun w hw => by have h1 := hw.m0; go_simp; try (with_reducible rfl)⟩) ?_
            simp only [Act.put, List.setIfInBounds_toArray, List.set_cons_zero, List.set_cons_succ]
            refine tk3 (v := .pointer (some ⟨ga, 1, none⟩)) (by kernel_rfl) (by kernel_rfl) (by kernel_rfl) (fun _ _ _ h => h) X.out (Or.inl ⟨by rfl, fun w hw => by go_simp; try (with_reducible rfl)⟩) ?_
            simp only [Act.put, List.setIfInBounds_toArray, List.set_cons_zero, List.set_cons_succ]
            refine tk4 (v := .int .i64 xK) (by kernel_rfl) (by kernel_rfl) (by kernel_rfl) (fun _ _ _ h => h) X.out (Or.inl ⟨by rfl, fun w hw => by have h1 := hw.c1; go_simp; try (with_reducible rfl)⟩) ?_
            simp only [Act.put, List.setIfInBounds_toArray, List.set_cons_zero, List.set_cons_succ]
            refine tk6 (v := .bool false) (by kernel_rfl) (by kernel_rfl) (by kernel_rfl) (fun _ _ _ h => h) X.out (Or.inl ⟨by rfl, fun w hw => by go_simp; try (with_reducible rfl)⟩) ?_
            simp only [Act.put, List.setIfInBounds_toArray, List.set_cons_zero, List.set_cons_succ]
            refine wpAnyH_ready (rs := [5]) (by kernel_rfl) (by simp) ?_
            refine rd5 (fun K hK => ?_) AllReadyH.nil
            go_simp
            refine C2.out.mono ?_
            clear C2
            rintro e w8 ⟨rfl, r8⟩
            simp only []
            have R8 := hide r8
            clear r8
            clear m0 m1 n0 n1 f0 f1 c0 c1 c2 c3
            obtain ⟨⟨m0, m1⟩, ⟨n0, n1, f0, f1⟩, c0, c1, c2, c3⟩ := R8.out.cells
            replace X := hide R8.out.cr
            refine hK.out _ _ X.out (fun _ => ?_)
            clear hK K
            refine tk7 (v := .bool false) (by kernel_rfl) (by kernel_rfl) (by kernel_rfl) (fun _ _ _ h => h) X.out (Or.inl ⟨by rfl, fun w hw => by go_simp; try (with_reducible rfl)⟩) ?_
            simp only [Act.put, List.setIfInBounds_toArray, List.set_cons_zero, List.set_cons_succ]
            refine wpAnyH_done (by kernel_rfl) ?_ _
            clear X
            clear R6 R0
            replace R8 := hide R8.out.less
            have KX' := KX
            have HL' : Hid (∀ b, (Y b).length + ds.length ≤ 2 * (c + 1)) := fun b => by have := HL.out b; omega
            have R20 := R8.out
            rw [← HR.out] at R20
            replace R20 := hide R20
            clear m0 m1 n0 n1 f0 f1 c0 c1 c2 c3
            obtain ⟨⟨m0, m1⟩, ⟨n0, n1, f0, f1⟩, c0, c1, c2, c3⟩ := R20.out.cells
            have hl0' := HL'.out a0
            have hl1' := HL'.out a1
            have C := hide R20.out.mark
            skip
            go_wp2_with fail
            refine C.out.mono ?_
            clear C
            rintro e w20 ⟨rfl, rfl⟩
            have C := hide (R20.out.is0 rfl (by omega) KX'.out hm2)
            go_wp2_with fail
            refine C.out.mono ?_
            clear C
            rintro e w21 ⟨rfl, r21⟩
            have R21 := hide r21
            clear r21
            clear m0 m1 n0 n1 f0 f1 c0 c1 c2 c3
            obtain ⟨⟨m0, m1⟩, ⟨n0, n1, f0, f1⟩, c0, c1, c2, c3⟩ := R21.out.cells
            have C := hide (R21.out.is1 rfl (by omega) KX'.out hm2)
            go_wp2_with fail
            refine C.out.mono ?_
            clear C
            rintro e w22 ⟨rfl, r22⟩
            have R22 := hide r22
            clear r22
            clear m0 m1 n0 n1 f0 f1 c0 c1 c2 c3
            go_wp2
            go_roundw
            case rel => exact ⟨c + 1, by omega, by simp, Y, ds, R22.out.play, KX'.out, HL'.out⟩
            case measure => simp [intOf]; omega
          | some v =>
            have C := hide ((R0.out.below (w' := wA.drew) (bMe wA).drew).rdrop0 (by omega) xK)
            rw [decide_eq_true (delL_lt hg)] at C
            have HG := hide hg
            clear hg
            go_wp2
            have X : Hid (CR gm gn ga a0 a1 (.slice ao0 (Y a0).length cap0) (.slice ao1 (Y a1).length cap1) ⟨xk, xK, xV, xN⟩ wA.drew) := hide (R0.out.below (w' := wA.drew) (bMe wA).drew).cr
            refine wp_region_held_drew (S := fun w1 => CR gm gn ga a0 a1 (.slice ao0 (Y a0).length cap0) (.slice ao1 (Y a1).length cap1) ⟨xk, xK, xV, xN⟩ w1) (by kernel_rfl) X.out (fun _ => ?_)
            refine tk0 (v := .int .i64 0) (by kernel_rfl) (by kernel_rfl) (by kernel_rfl) (fun _ _ _ h => h) X.out (Or.inl ⟨by rfl, fun w hw => by go_simp; try (with_reducible rfl)⟩) ?_
            simp only [Act.put, List.setIfInBounds_toArray, List.set_cons_zero, List.set_cons_succ]
            refine tk1 (v := .pointer (some ⟨gn, 0, none⟩)) (by kernel_rfl) (by kernel_rfl) (by kernel_rfl) (fun _ _ _ h => h) X.out (Or.inl ⟨by rfl, fun w hw => by go_simp; try (with_reducible rfl)⟩) ?_
            simp only [Act.put, List.setIfInBounds_toArray, List.set_cons_zero, List.set_cons_succ]
            refine tk2 (v := .slice ao0 (Y a0).length cap0) (by kernel_rfl) (by kernel_rfl) (by kernel_rfl) (fun _ _ _ h => h) X.out (Or.inl ⟨by rfl, fun w hw => by have h1 := hw.n0; go_simp; try (with_reducible rfl)⟩) ?_
            simp only [Act.put, List.setIfInBounds_toArray, List.set_cons_zero, List.set_cons_succ]
            refine tk3 (v := .pointer (some ⟨ga, 1, none⟩)) (by kernel_rfl) (by kernel_rfl) (by kernel_rfl) (fun _ _ _ h => h) X.out (Or.inl ⟨by rfl, fun w hw => by go_simp; try (with_reducible rfl)⟩) ?_
            simp only [Act.put, List.setIfInBounds_toArray, List.set_cons_zero, List.set_cons_succ]
            refine tk4 (v := .int .i64 xK) (by kernel_rfl) (by kernel_rfl) (by kernel_rfl) (fun _ _ _ h => h) X.out (Or.inl ⟨by rfl, fun w hw => by have h1 := hw.c1; go_simp; try (with_reducible rfl)⟩) ?_
            simp only [Act.put, List.setIfInBounds_toArray, List.set_cons_zero, List.set_cons_succ]
            refine wpAnyH_ready (rs := [5]) (by kernel_rfl) (by simp) ?_
            refine rd5 (fun K hK => ?_) AllReadyH.nil
            go_simp
            refine C.out.mono ?_
            clear C
            rintro e w6 ⟨ao6, cap6, rfl, r6⟩
            simp only []
            have R6 := hide r6
            clear r6
            clear m0 m1 n0 n1 f0 f1 c0 c1 c2 c3
            obtain ⟨⟨m0, m1⟩, ⟨n0, n1, f0, f1⟩, c0, c1, c2, c3⟩ := R6.out.cells
            replace X := hide R6.out.cr
            refine hK.out _ _ X.out (fun _ => ?_)
            clear hK K
            refine tk6 (v := .tuple #[.slice ao6 (delL xK (Y a0)).length cap6, .bool true]) (by kernel_rfl) (by kernel_rfl) (by kernel_rfl) (fun _ _ _ h => h) X.out (Or.inl ⟨by rfl, fun w hw => by go_simp; try (with_reducible rfl)⟩) ?_
            simp only [Act.put, List.setIfInBounds_toArray, List.set_cons_zero, List.set_cons_succ]
            refine tk7 (v := .slice ao6 (delL xK (Y a0)).length cap6) (by kernel_rfl) (by kernel_rfl) (by kernel_rfl) (fun _ _ _ h => h) X.out (Or.inl ⟨by rfl, fun w hw => by go_simp; try (with_reducible rfl)⟩) ?_
            simp only [Act.put, List.setIfInBounds_toArray, List.set_cons_zero, List.set_cons_succ]
            refine tk8 (v := .bool true) (by kernel_rfl) (by kernel_rfl) (by kernel_rfl) (fun _ _ _ h => h) X.out (Or.inl ⟨by rfl, fun w hw => by go_simp; try (with_reducible rfl)⟩) ?_
            simp only [Act.put, List.setIfInBounds_toArray, List.set_cons_zero, List.set_cons_succ]
            refine tk9 (v := .slice ao6 (delL xK (Y a0)).length cap6) (by kernel_rfl) (by kernel_rfl) (by kernel_rfl) (fun _ _ _ h => h) X.out (Or.inl ⟨by rfl, fun w hw => by go_simp; try (with_reducible rfl)⟩) ?_
            simp only [Act.put, List.setIfInBounds_toArray, List.set_cons_zero, List.set_cons_succ]
            refine tk10 (v := .bool true) (by kernel_rfl) (by kernel_rfl) (by kernel_rfl) (fun _ _ _ h => h) X.out (Or.inl ⟨by rfl, fun w hw => by go_simp; try (with_reducible rfl)⟩) ?_
            simp only [Act.put, List.setIfInBounds_toArray, List.set_cons_zero, List.set_cons_succ]
            refine wpAnyH_done (by kernel_rfl) ?_ _
            clear X
            have C2 := hide ((R6.out.below (w' := w6.drew) (bMe w6).drew).dropSome0 wK HG.out (by omega))
            go_wp2
            have X : Hid (CR gm gn ga a0 a1 (.slice ao0 (Y a0).length cap0) (.slice ao1 (Y a1).length cap1) ⟨xk, xK, xV, xN⟩ w6.drew) := hide (R6.out.below (w' := w6.drew) (bMe w6).drew).cr
            refine wp_region_held_drew (S := fun w1 => CR gm gn ga a0 a1 (.slice ao0 (Y a0).length cap0) (.slice ao1 (Y a1).length cap1) ⟨xk, xK, xV, xN⟩ w1) (by kernel_rfl) X.out (fun _ => ?_)
            refine tk0 (v := .int .i64 0) (by kernel_rfl) (by kernel_rfl) (by kernel_rfl) (fun _ _ _ h => h) X.out (Or.inl ⟨by rfl, fun w hw => by go_simp; try (with_reducible rfl)⟩) ?_
            simp only [Act.put, List.setIfInBounds_toArray, List.set_cons_zero, List.set_cons_succ]
            refine tk1 (v := .pointer (some ⟨gm, 0, none⟩)) (by kernel_rfl) (by kernel_rfl) (by kernel_rfl) (fun _ _ _ h => h) X.out (Or.inl ⟨by rfl, fun w hw => by go_simp; try (with_reducible rfl)⟩) ?_
            simp only [Act.put, List.setIfInBounds_toArray, List.set_cons_zero, List.set_cons_succ]
            refine tk2 (v := .pointer (some ⟨a0, 0, none⟩)) (by kernel_rfl) (by kernel_rfl) (by kernel_rfl) (fun _ _ _ h => h) X.out (Or.inl ⟨by rfl, fun w hw => by have h1 := hw.m0; go_simp; try (with_reducible rfl)⟩) ?_
            simp only [Act.put, List.setIfInBounds_toArray, List.set_cons_zero, List.set_cons_succ]
            refine tk3 (v := .pointer (some ⟨ga, 1, none⟩)) (by kernel_rfl) (by kernel_rfl) (by kernel_rfl) (fun _ _ _ h => h) X.out (Or.inl ⟨by rfl, fun w hw => by go_simp; try (with_reducible rfl)⟩) ?_
            simp only [Act.put, List.setIfInBounds_toArray, List.set_cons_zero, List.set_cons_succ]
            refine tk4 (v := .int .i64 xK) (by kernel_rfl) (by kernel_rfl) (by kernel_rfl) (fun _ _ _ h => h) X.out (Or.inl ⟨by rfl, fun w hw => by have h1 := hw.c1; go_simp; try (with_reducible rfl)⟩) ?_
            simp only [Act.put, List.setIfInBounds_toArray, List.set_cons_zero, List.set_cons_succ]
            refine tk6 (v := .bool true) (by kernel_rfl) (by kernel_rfl) (by kernel_rfl) (fun _ _ _ h => h) X.out (Or.inl ⟨by rfl, fun w hw => by go_simp; try (with_reducible rfl)⟩) ?_
            simp only [Act.put, List.setIfInBounds_toArray, List.set_cons_zero, List.set_cons_succ]
            refine wpAnyH_ready (rs := [5]) (by kernel_rfl) (by simp) ?_
            refine rd5 (fun K hK => ?_) AllReadyH.nil
            go_simp
            refine C2.out.mono ?_
            clear C2
            rintro e w8 ⟨rfl, r8⟩
            simp only []
            have R8 := hide r8
            clear r8
            clear m0 m1 n0 n1 f0 f1 c0 c1 c2 c3
            obtain ⟨⟨m0, m1⟩, ⟨n0, n1, f0, f1⟩, c0, c1, c2, c3⟩ := R8.out.cells
            replace X := hide R8.out.cr
            refine hK.out _ _ X.out (fun _ => ?_)
            clear hK K
            refine tk7 (v := .bool false) (by kernel_rfl) (by kernel_rfl) (by kernel_rfl) (fun _ _ _ h => h) X.out (Or.inl ⟨by rfl, fun w hw => by go_simp; try (with_reducible rfl)⟩) ?_
            simp only [Act.put, List.setIfInBounds_toArray, List.set_cons_zero, List.set_cons_succ]
            refine wpAnyH_done (by kernel_rfl) ?_ _
            clear X
            have HS : Hid (∀ a, Srt kyInt (Y a)) := fun a => R6.out.srt a
            clear R6 R0
            obtain ⟨ys, hyl, hrow, hmore⟩ := R8.out.more
            rw [HRL.out] at hrow hmore
            have hcell := R8.out.cell2
            go_wp2_with (at_builtin; refine wpList_append_own_at _ rfl _ _ 34 rfl w1.heap.size 33 i0 (.agg #[.slice none 0 0, .slice none 0 0]) 2 48 Try.underlying34 hi hz0 hz1 hz2 rfl (by decide) (.slice aw ds.length capw) ds.length ys rfl (hrow.alloc _) ⟨w8.heap.size, 0, none⟩ 1 1 [_, _] rfl rfl (cell_two_new _ _ _ _) hcell (by unfold maxLen; omega) (by omega) (by have := R8.out.bel.size; simp; omega) ?_; intro vw9 w9 r1 r2 _ r4; have R9 := hide (hmore w9 vw9 _ r1 r2 r4); obtain ⟨aw9, capw9, rfl, hcw9⟩ := R9.out.form; rw [show (R ++ [(Y a0, Y a1)]).length = ds.length + 1 by simp [HRL.out]] at R9 hcw9 ⊢; clear m0 m1 n0 n1 f0 f1 c0 c1 c2 c3; obtain ⟨⟨m0, m1⟩, ⟨n0, n1, f0, f1⟩, c0, c1, c2, c3⟩ := R9.out.cells; clear r1 r2 r4)
            have R10 := hide (R9.out.put0 (List.Mem.head _)).less
            generalize w9.setCell ⟨gn, 0, none⟩ _ = w10 at *
            clear R9 R8 hyl hcell hrow hmore
            obtain ⟨Y', hY'⟩ : ∃ Y', upX Y a0 (delL xK (Y a0)) = Y' := ⟨_, rfl⟩
            obtain ⟨ds', hds'⟩ : ∃ ds', ds ++ [⟨a0, xK, some v⟩] = ds' := ⟨_, rfl⟩
            have KX' : Hid (KW Y') := by show KW Y'; rw [← hY']; exact KX.out.del a0 xK
            have HL' : Hid (∀ b, (Y' b).length + ds'.length ≤ 2 * (c + 1)) := by
              intro b
              rw [← hY', ← hds']
              rw [List.length_append]; exact bound_up HL.out a0 (Nat.le_succ_of_le (delL_length _ _)) b
            have hY0 : delL xK (Y a0) = Y' a0 := by rw [← hY']; rw [upX_same]
            have hY1 : Y a1 = Y' a1 := by rw [← hY']; rw [upX_other _ hne.symm]
            have hH : R ++ [(Y a0, Y a1)] = hisL a0 a1 Y' ds' := by rw [← hY', ← hds']; rw [hisL_snoc a0 a1 ds _ (undo_del kyInt Y a0 xK (HS.out a0) HG.out), HR.out]
            have hlen' : ds'.length = ds.length + 1 := by rw [← hds']; simp
            have R19 := R10.out
            rw [hY', hds', hH, hY0, hY1] at R19
            have HLEN := hide hlen'
            have R20 := hide R19
            clear hY' hds' hH hY0 hY1 hlen' R19 R10 
            clear m0 m1 n0 n1 f0 f1 c0 c1 c2 c3
            obtain ⟨⟨m0, m1⟩, ⟨n0, n1, f0, f1⟩, c0, c1, c2, c3⟩ := R20.out.cells
            have hl0' := HL'.out a0
            have hl1' := HL'.out a1
            have C := hide R20.out.mark
            rw [HLEN.out] at C
            go_wp2_with fail
            refine C.out.mono ?_
            clear C
            rintro e w20 ⟨rfl, rfl⟩
            have C := hide (R20.out.is0 rfl (by omega) KX'.out hm2)
            go_wp2_with fail
            refine C.out.mono ?_
            clear C
            rintro e w21 ⟨rfl, r21⟩
            have R21 := hide r21
            clear r21
            clear m0 m1 n0 n1 f0 f1 c0 c1 c2 c3
            obtain ⟨⟨m0, m1⟩, ⟨n0, n1, f0, f1⟩, c0, c1, c2, c3⟩ := R21.out.cells
            have C := hide (R21.out.is1 rfl (by omega) KX'.out hm2)
            go_wp2_with fail
            refine C.out.mono ?_
            clear C
            rintro e w22 ⟨rfl, r22⟩
            have R22 := hide r22
            clear r22
            clear m0 m1 n0 n1 f0 f1 c0 c1 c2 c3
            go_wp2
            go_roundw
            case rel => exact ⟨c + 1, by omega, by simp, Y', ds', R22.out.play, KX'.out, HL'.out⟩
            case measure => simp [intOf]; omega
        · have h2 : xk % 2 = 1 := by omega
          cases hg : getL xK (Y a1) with
          | none =>
            have C := hide ((R0.out.below (w' := wA.drew) (bMe wA).drew).rdrop1 (by omega) xK)
            rw [delL_none hg, decide_eq_false (Nat.lt_irrefl _)] at C
            have HG := hide hg
            clear hg
            go_wp2
            have X : Hid (CR gm gn ga a0 a1 (.slice ao0 (Y a0).length cap0) (.slice ao1 (Y a1).length cap1) ⟨xk, xK, xV, xN⟩ wA.drew) := hide (R0.out.below (w' := wA.drew) (bMe wA).drew).cr
            refine wp_region_held_drew (S := fun w1 => CR gm gn ga a0 a1 (.slice ao0 (Y a0).length cap0) (.slice ao1 (Y a1).length cap1) ⟨xk, xK, xV, xN⟩ w1) (by kernel_rfl) X.out (fun _ => ?_)
            refine tk0 (v := .int .i64 1) (by kernel_rfl) (by kernel_rfl) (by kernel_rfl) (fun _ _ _ h => h) X.out (Or.inl ⟨by rfl, fun w hw => by go_simp; try (with_reducible rfl)⟩) ?_
            simp only [Act.put, List.setIfInBounds_toArray, List.set_cons_zero, List.set_cons_succ]
            refine tk1 (v := .pointer (some ⟨gn, 1, none⟩)) (by kernel_rfl) (by kernel_rfl) (by kernel_rfl) (fun _ _ _ h => h) X.out (Or.inl ⟨by rfl, fun w hw => by go_simp; try (with_reducible rfl)⟩) ?_
            simp only [Act.put, List.setIfInBounds_toArray, List.set_cons_zero, List.set_cons_succ]
            refine tk2 (v := .slice ao1 (Y a1).length cap1) (by kernel_rfl) (by kernel_rfl) (by kernel_rfl) (fun _ _ _ h => h) X.out (Or.inl ⟨by rfl, fun w hw => by have h1 := hw.n1; go_simp; try (with_reducible rfl)⟩) ?_
            simp only [Act.put, List.setIfInBounds_toArray, List.set_cons_zero, List.set_cons_succ]
            refine tk3 (v := .pointer (some ⟨ga, 1, none⟩)) (by kernel_rfl) (by kernel_rfl) (by kernel_rfl) (fun _ _ _ h => h) X.out (Or.inl ⟨by rfl, fun w hw => by go_simp; try (with_reducible rfl)⟩) ?_
            simp only [Act.put, List.setIfInBounds_toArray, List.set_cons_zero, List.set_cons_succ]
            refine tk4 (v := .int .i64 xK) (by kernel_rfl) (by kernel_rfl) (by kernel_rfl) (fun _ _ _ h => h) X.out (Or.inl ⟨by rfl, fun w hw => by have h1 := hw.c1; go_simp; try (with_reducible rfl)⟩) ?_
            simp only [Act.put, List.setIfInBounds_toArray, List.set_cons_zero, List.set_cons_succ]
            refine wpAnyH_ready (rs := [5]) (by kernel_rfl) (by simp) ?_
            refine rd5 (fun K hK => ?_) AllReadyH.nil
            go_simp
            refine C.out.mono ?_
            clear C
            rintro e w6 ⟨ao6, cap6, rfl, r6⟩
            simp only []
            have R6 := hide r6
            clear r6
            clear m0 m1 n0 n1 f0 f1 c0 c1 c2 c3
            obtain ⟨⟨m0, m1⟩, ⟨n0, n1, f0, f1⟩, c0, c1, c2, c3⟩ := R6.out.cells
            replace X := hide R6.out.cr
            refine hK.out _ _ X.out (fun _ => ?_)
            clear hK K
            refine tk6 (v := .tuple #[.slice ao6 (Y a1).length cap6, .bool false]) (by kernel_rfl) (by kernel_rfl) (by kernel_rfl) (fun _ _ _ h => h) X.out (Or.inl ⟨by rfl, fun w hw => by go_simp; try (with_reducible rfl)⟩) ?_
            simp only [Act.put, List.setIfInBounds_toArray, List.set_cons_zero, List.set_cons_succ]
            refine tk7 (v := .slice ao6 (Y a1).length cap6) (by kernel_rfl) (by kernel_rfl) (by kernel_rfl) (fun _ _ _ h => h) X.out (Or.inl ⟨by rfl, fun w hw => by go_simp; try (with_reducible rfl)⟩) ?_
            simp only [Act.put, List.setIfInBounds_toArray, List.set_cons_zero, List.set_cons_succ]
            refine tk8 (v := .bool false) (by kernel_rfl) (by kernel_rfl) (by kernel_rfl) (fun _ _ _ h => h) X.out (Or.inl ⟨by rfl, fun w hw => by go_simp; try (with_reducible rfl)⟩) ?_
            simp only [Act.put, List.setIfInBounds_toArray, List.set_cons_zero, List.set_cons_succ]
            refine tk9 (v := .slice ao6 (Y a1).length cap6) (by kernel_rfl) (by kernel_rfl) (by kernel_rfl) (fun _ _ _ h => h) X.out (Or.inl ⟨by rfl, fun w hw => by go_simp; try (with_reducible rfl)⟩) ?_
            simp only [Act.put, List.setIfInBounds_toArray, List.set_cons_zero, List.set_cons_succ]
            refine tk10 (v := .bool false) (by kernel_rfl) (by kernel_rfl) (by kernel_rfl) (fun _ _ _ h => h) X.out (Or.inl ⟨by rfl, fun w hw => by go_simp; try (with_reducible rfl)⟩) ?_
            simp only [Act.put, List.setIfInBounds_toArray, List.set_cons_zero, List.set_cons_succ]
            refine wpAnyH_done (by kernel_rfl) ?_ _
            clear X
            have C2 := hide ((R6.out.below (w' := w6.drew) (bMe w6).drew).dropNone1 wK HG.out)
            go_wp2
            have X : Hid (CR gm gn ga a0 a1 (.slice ao0 (Y a0).length cap0) (.slice ao1 (Y a1).length cap1) ⟨xk, xK, xV, xN⟩ w6.drew) := hide (R6.out.below (w' := w6.drew) (bMe w6).drew).cr
            refine wp_region_held_drew (S := fun w1 => CR gm gn ga a0 a1 (.slice ao0 (Y a0).length cap0) (.slice ao1 (Y a1).length cap1) ⟨xk, xK, xV, xN⟩ w1) (by kernel_rfl) X.out (fun _ => ?_)
            refine tk0 (v := .int .i64 1) (by kernel_rfl) (by kernel_rfl) (by kernel_rfl) (fun _ _ _ h => h) X.out (Or.inl ⟨by rfl, fun w hw => by go_simp; try (with_reducible rfl)⟩) ?_
            simp only [Act.put, List.setIfInBounds_toArray, List.set_cons_zero, List.set_cons_succ]
            refine tk1 (v := .pointer (some ⟨gm, 1, none⟩)) (by kernel_rfl) (by kernel_rfl) (by kernel_rfl) (fun _ _ _ h => h) X.out (Or.inl ⟨by rfl, fun w hw => by go_simp; try (with_reducible rfl)⟩) ?_
            simp only [Act.put, List.setIfInBounds_toArray, List.set_cons_zero, List.set_cons_succ]
            refine tk2 (v := .pointer (some ⟨a1, 0, none⟩)) (by kernel_rfl) (by kernel_rfl) (by kernel_rfl) (fun _ _ _ h => h) X.out (Or.inl ⟨by rfl, fun w hw => by have h1 := hw.m1; go_simp; try (with_reducible rfl)⟩) ?_
            simp only [Act.put, List.setIfInBounds_toArray, List.set_cons_zero, List.set_cons_succ]
            refine tk3 (v := .pointer (some ⟨ga, 1, none⟩)) (by kernel_rfl) (by kernel_rfl) (by kernel_rfl) (fun _ _ _ h => h) X.out (Or.inl ⟨by rfl, fun w hw => by go_simp; try (with_reducible rfl)⟩) ?_
            simp only [Act.put, List.setIfInBounds_toArray, List.set_cons_zero, List.set_cons_succ]
            refine tk4 (v := .int .i64 xK) (by kernel_rfl) (by kernel_rfl) (by kernel_rfl) (fun _ _ _ h => h) X.out (Or.inl ⟨by rfl, fun w hw => by have h1 := hw.c1; go_simp; try (with_reducible rfl)⟩) ?_
            simp only [Act.put, List.setIfInBounds_toArray, List.set_cons_zero, List.set_cons_succ]
            refine tk6 (v := .bool false) (by kernel_rfl) (by kernel_rfl) (by kernel_rfl) (fun _ _ _ h => h) X.out (Or.inl ⟨by rfl, fun w hw => by go_simp; try (with_reducible rfl)⟩) ?_
            simp only [Act.put, List.setIfInBounds_toArray, List.set_cons_zero, List.set_cons_succ]
            refine wpAnyH_ready (rs := [5]) (by kernel_rfl) (by simp) ?_
            refine rd5 (fun K hK => ?_) AllReadyH.nil
            go_simp
            refine C2.out.mono ?_
            clear C2
            rintro e w8 ⟨rfl, r8⟩
            simp only []
            have R8 := hide r8
            clear r8
            clear m0 m1 n0 n1 f0 f1 c0 c1 c2 c3
            obtain ⟨⟨m0, m1⟩, ⟨n0, n1, f0, f1⟩, c0, c1, c2, c3⟩ := R8.out.cells
            replace X := hide R8.out.cr
            refine hK.out _ _ X.out (fun _ => ?_)
            clear hK K
            refine tk7 (v := .bool false) (by kernel_rfl) (by kernel_rfl) (by kernel_rfl) (fun _ _ _ h => h) X.out (Or.inl ⟨by rfl, fun w hw => by go_simp; try (with_reducible rfl)⟩) ?_
            simp only [Act.put, List.setIfInBounds_toArray, List.set_cons_zero, List.set_cons_succ]
            refine wpAnyH_done (by kernel_rfl) ?_ _
            clear X
            clear R6 R0
            replace R8 := hide R8.out.less
            have KX' := KX
            have HL' : Hid (∀ b, (Y b).length + ds.length ≤ 2 * (c + 1)) := fun b => by have := HL.out b; omega
            have R20 := R8.out
            rw [← HR.out] at R20
            replace R20 := hide R20
            clear m0 m1 n0 n1 f0 f1 c0 c1 c2 c3
            obtain ⟨⟨m0, m1⟩, ⟨n0, n1, f0, f1⟩, c0, c1, c2, c3⟩ := R20.out.cells
            have hl0' := HL'.out a0
            have hl1' := HL'.out a1
            have C := hide R20.out.mark
            skip
            go_wp2_with fail
            refine C.out.mono ?_
            clear C
            rintro e w20 ⟨rfl, rfl⟩
            have C := hide (R20.out.is0 rfl (by omega) KX'.out hm2)
            go_wp2_with fail
            refine C.out.mono ?_
            clear C
            rintro e w21 ⟨rfl, r21⟩
            have R21 := hide r21
            clear r21
            clear m0 m1 n0 n1 f0 f1 c0 c1 c2 c3
            obtain ⟨⟨m0, m1⟩, ⟨n0, n1, f0, f1⟩, c0, c1, c2, c3⟩ := R21.out.cells
            have C := hide (R21.out.is1 rfl (by omega) KX'.out hm2)
            go_wp2_with fail
            refine C.out.mono ?_
            clear C
            rintro e w22 ⟨rfl, r22⟩
            have R22 := hide r22
            clear r22
            clear m0 m1 n0 n1 f0 f1 c0 c1 c2 c3
            go_wp2
            go_roundw
            case rel => exact ⟨c + 1, by omega, by simp, Y, ds, R22.out.play, KX'.out, HL'.out⟩
            case measure => simp [intOf]; omega
          | some v =>
            have C := hide ((R0.out.below (w' := wA.drew) (bMe wA).drew).rdrop1 (by omega) xK)
            rw [decide_eq_true (delL_lt hg)] at C
            have HG := hide hg
            clear hg
            go_wp2
            have X : Hid (CR gm gn ga a0 a1 (.slice ao0 (Y a0).length cap0) (.slice ao1 (Y a1).length cap1) ⟨xk, xK, xV, xN⟩ wA.drew) := hide (R0.out.below (w' := wA.drew) (bMe wA).drew).cr
            refine wp_region_held_drew (S := fun w1 => CR gm gn ga a0 a1 (.slice ao0 (Y a0).length cap0) (.slice ao1 (Y a1).length cap1) ⟨xk, xK, xV, xN⟩ w1) (by kernel_rfl) X.out (fun _ => ?_)
            refine tk0 (v := .int .i64 1) (by kernel_rfl) (by kernel_rfl) (by kernel_rfl) (fun _ _ _ h => h) X.out (Or.inl ⟨by rfl, fun w hw => by go_simp; try (with_reducible rfl)⟩) ?_
            simp only [Act.put, List.setIfInBounds_toArray, List.set_cons_zero, List.set_cons_succ]
            refine tk1 (v := .pointer (some ⟨gn, 1, none⟩)) (by kernel_rfl) (by kernel_rfl) (by kernel_rfl) (fun _ _ _ h => h) X.out (Or.inl ⟨by rfl, fun w hw => by go_simp; try (with_reducible rfl)⟩) ?_
            simp only [Act.put, List.setIfInBounds_toArray, List.set_cons_zero, List.set_cons_succ]
            refine tk2 (v := .slice ao1 (Y a1).length cap1) (by kernel_rfl) (by kernel_rfl) (by kernel_rfl) (fun _ _ _ h => h) X.out (Or.inl ⟨by rfl, fun w hw => by have h1 := hw.n1; go_simp; try (with_reducible rfl)⟩) ?_
            simp only [Act.put, List.setIfInBounds_toArray, List.set_cons_zero, List.set_cons_succ]
            refine tk3 (v := .pointer (some ⟨ga, 1, none⟩)) (by kernel_rfl) (by kernel_rfl) (by kernel_rfl) (fun _ _ _ h => h) X.out (Or.inl ⟨by rfl, fun w hw => by go_simp; try (with_reducible rfl)⟩) ?_
            simp only [Act.put, List.setIfInBounds_toArray, List.set_cons_zero, List.set_cons_succ]
            refine tk4 (v := .int .i64 xK) (by kernel_rfl) (by kernel_rfl) (by kernel_rfl) (fun _ _ _ h => h) X.out (Or.inl ⟨by rfl, fun w hw => by have h1 := hw.c1; go_simp; try (with_reducible rfl)⟩) ?_
            simp only [Act.put, List.setIfInBounds_toArray, List.set_cons_zero, List.set_cons_succ]
            refine wpAnyH_ready (rs := [5]) (by kernel_rfl) (by simp) ?_
            refine rd5 (fun K hK => ?_) AllReadyH.nil
            go_simp
            refine C.out.mono ?_
            clear C
            rintro e w6 ⟨ao6, cap6, rfl, r6⟩
            simp only []
            have R6 := hide r6
            clear r6
            clear m0 m1 n0 n1 f0 f1 c0 c1 c2 c3
            obtain ⟨⟨m0, m1⟩, ⟨n0, n1, f0, f1⟩, c0, c1, c2, c3⟩ := R6.out.cells
            replace X := hide R6.out.cr
            refine hK.out _ _ X.out (fun _ => ?_)
            clear hK K
            refine tk6 (v := .tuple #[.slice ao6 (delL xK (Y a1)).length cap6, .bool true]) (by kernel_rfl) (by kernel_rfl) (by kernel_rfl) (fun _ _ _ h => h) X.out (Or.inl ⟨by rfl, fun w hw => by go_simp; try (with_reducible rfl)⟩) ?_
            simp only [Act.put, List.setIfInBounds_toArray, List.set_cons_zero, List.set_cons_succ]
            refine tk7 (v := .slice ao6 (delL xK (Y a1)).length cap6) (by kernel_rfl) (by kernel_rfl) (by kernel_rfl) (fun _ _ _ h => h) X.out (Or.inl ⟨by rfl, fun w hw => by go_simp; try (with_reducible rfl)⟩) ?_
            simp only [Act.put, List.setIfInBounds_toArray, List.set_cons_zero, List.set_cons_succ]
            refine tk8 (v := .bool true) (by kernel_rfl) (by kernel_rfl) (by kernel_rfl) (fun _ _ _ h => h) X.out (Or.inl ⟨by rfl, fun w hw => by go_simp; try (with_reducible rfl)⟩) ?_
            simp only [Act.put, List.setIfInBounds_toArray, List.set_cons_zero, List.set_cons_succ]
            refine tk9 (v := .slice ao6 (delL xK (Y a1)).length cap6) (by kernel_rfl) (by kernel_rfl) (by kernel_rfl) (fun _ _ _ h => h) X.out (Or.inl ⟨by rfl, fun w hw => by go_simp; try (with_reducible rfl)⟩) ?_
            simp only [Act.put, List.setIfInBounds_toArray, List.set_cons_zero, List.set_cons_succ]
            refine tk10 (v := .bool true) (by kernel_rfl) (by kernel_rfl) (by kernel_rfl) (fun _ _ _ h => h) X.out (Or.inl ⟨by rfl, fun w hw => by go_simp; try (with_reducible rfl)⟩) ?_
            simp only [Act.put, List.setIfInBounds_toArray, List.set_cons_zero, List.set_cons_succ]
            refine wpAnyH_done (by kernel_rfl) ?_ _
            clear X
            have C2 := hide ((R6.out.below (w' := w6.drew) (bMe w6).drew).dropSome1 wK HG.out (by omega))
            go_wp2
            have X : Hid (CR gm gn ga a0 a1 (.slice ao0 (Y a0).length cap0) (.slice ao1 (Y a1).length cap1) ⟨xk, xK, xV, xN⟩ w6.drew) := hide (R6.out.below (w' := w6.drew) (bMe w6).drew).cr
            refine wp_region_held_drew (S := fun w1 => CR gm gn ga a0 a1 (.slice ao0 (Y a0).length cap0) (.slice ao1 (Y a1).length cap1) ⟨xk, xK, xV, xN⟩ w1) (by kernel_rfl) X.out (fun _ => ?_)
            refine tk0 (v := .int .i64 1) (by kernel_rfl) (by kernel_rfl) (by kernel_rfl) (fun _ _ _ h => h) X.out (Or.inl ⟨by rfl, fun w hw => by go_simp; try (with_reducible rfl)⟩) ?_
            simp only [Act.put, List.setIfInBounds_toArray, List.set_cons_zero, List.set_cons_succ]
            refine tk1 (v := .pointer (some ⟨gm, 1, none⟩)) (by kernel_rfl) (by kernel_rfl) (by kernel_rfl) (fun _ _ _ h => h) X.out (Or.inl ⟨by rfl, fun w hw => by go_simp; try (with_reducible rfl)⟩) ?_
            simp only [Act.put, List.setIfInBounds_toArray, List.set_cons_zero, List.set_cons_succ]
            refine tk2 (v := .pointer (some ⟨a1, 0, none⟩)) (by kernel_rfl) (by kernel_rfl) (by kernel_rfl) (fun _ _ _ h => h) X.out (Or.inl ⟨by rfl, fun w hw => by have h1 := hw.m1; go_simp; try (with_reducible rfl)⟩) ?_
            simp only [Act.put, List.setIfInBounds_toArray, List.set_cons_zero, List.set_cons_succ]
            refine tk3 (v := .pointer (some ⟨ga, 1, none⟩)) (by kernel_rfl) (by kernel_rfl) (by kernel_rfl) (fun _ _ _ h => h) X.out (Or.inl ⟨by rfl, fun w hw => by go_simp; try (with_reducible rfl)⟩) ?_
            simp only [Act.put, List.setIfInBounds_toArray, List.set_cons_zero, List.set_cons_succ]
            refine tk4 (v := .int .i64 xK) (by kernel_rfl) (by kernel_rfl) (by kernel_rfl) (fun _ _ _ h => h) X.out (Or.inl ⟨by rfl, fun w hw => by have h1 := hw.c1; go_simp; try (with_reducible rfl)⟩) ?_
            simp only [Act.put, List.setIfInBounds_toArray, List.set_cons_zero, List.set_cons_succ]
            refine tk6 (v := .bool true) (by kernel_rfl) (by kernel_rfl) (by kernel_rfl) (fun _ _ _ h => h) X.out (Or.inl ⟨by rfl, fun w hw => by go_simp; try (with_reducible rfl)⟩) ?_
            simp only [Act.put, List.setIfInBounds_toArray, List.set_cons_zero, List.set_cons_succ]
            refine wpAnyH_ready (rs := [5]) (by kernel_rfl) (by simp) ?_
            refine rd5 (fun K hK => ?_) AllReadyH.nil
            go_simp
            refine C2.out.mono ?_
            clear C2
            rintro e w8 ⟨rfl, r8⟩
            simp only []
            have R8 := hide r8
            clear r8
            clear m0 m1 n0 n1 f0 f1 c0 c1 c2 c3
            obtain ⟨⟨m0, m1⟩, ⟨n0, n1, f0, f1⟩, c0, c1, c2, c3⟩ := R8.out.cells
            replace X := hide R8.out.cr
            refine hK.out _ _ X.out (fun _ => ?_)
            clear hK K
            refine tk7 (v := .bool false) (by kernel_rfl) (by kernel_rfl) (by kernel_rfl) (fun _ _ _ h => h) X.out (Or.inl ⟨by rfl, fun w hw => by go_simp; try (with_reducible rfl)⟩) ?_
            simp only [Act.put, List.setIfInBounds_toArray, List.set_cons_zero, List.set_cons_succ]
            refine wpAnyH_done (by kernel_rfl) ?_ _
            clear X
            have HS : Hid (∀ a, Srt kyInt (Y a)) := fun a => R6.out.srt a
            clear R6 R0
            obtain ⟨ys, hyl, hrow, hmore⟩ := R8.out.more
            rw [HRL.out] at hrow hmore
            have hcell := R8.out.cell2
            go_wp2_with (at_builtin; refine wpList_append_own_at _ rfl _ _ 34 rfl w1.heap.size 33 i0 (.agg #[.slice none 0 0, .slice none 0 0]) 2 48 Try.underlying34 hi hz0 hz1 hz2 rfl (by decide) (.slice aw ds.length capw) ds.length ys rfl (hrow.alloc _) ⟨w8.heap.size, 0, none⟩ 1 1 [_, _] rfl rfl (cell_two_new _ _ _ _) hcell (by unfold maxLen; omega) (by omega) (by have := R8.out.bel.size; simp; omega) ?_; intro vw9 w9 r1 r2 _ r4; have R9 := hide (hmore w9 vw9 _ r1 r2 r4); obtain ⟨aw9, capw9, rfl, hcw9⟩ := R9.out.form; rw [show (R ++ [(Y a0, Y a1)]).length = ds.length + 1 by simp [HRL.out]] at R9 hcw9 ⊢; clear m0 m1 n0 n1 f0 f1 c0 c1 c2 c3; obtain ⟨⟨m0, m1⟩, ⟨n0, n1, f0, f1⟩, c0, c1, c2, c3⟩ := R9.out.cells; clear r1 r2 r4)
            have R10 := hide (R9.out.put1 (List.Mem.head _)).less
            generalize w9.setCell ⟨gn, 1, none⟩ _ = w10 at *
            clear R9 R8 hyl hcell hrow hmore
            obtain ⟨Y', hY'⟩ : ∃ Y', upX Y a1 (delL xK (Y a1)) = Y' := ⟨_, rfl⟩
            obtain ⟨ds', hds'⟩ : ∃ ds', ds ++ [⟨a1, xK, some v⟩] = ds' := ⟨_, rfl⟩
            have KX' : Hid (KW Y') := by show KW Y'; rw [← hY']; exact KX.out.del a1 xK
            have HL' : Hid (∀ b, (Y' b).length + ds'.length ≤ 2 * (c + 1)) := by
              intro b
              rw [← hY', ← hds']
              rw [List.length_append]; exact bound_up HL.out a1 (Nat.le_succ_of_le (delL_length _ _)) b
            have hY0 : Y a0 = Y' a0 := by rw [← hY']; rw [upX_other _ hne]
            have hY1 : delL xK (Y a1) = Y' a1 := by rw [← hY']; rw [upX_same]
            have hH : R ++ [(Y a0, Y a1)] = hisL a0 a1 Y' ds' := by rw [← hY', ← hds']; rw [hisL_snoc a0 a1 ds _ (undo_del kyInt Y a1 xK (HS.out a1) HG.out), HR.out]
            have hlen' : ds'.length = ds.length + 1 := by rw [← hds']; simp
            have R19 := R10.out
            rw [hY', hds', hH, hY0, hY1] at R19
            have HLEN := hide hlen'
            have R20 := hide R19
            clear hY' hds' hH hY0 hY1 hlen' R19 R10 
            clear m0 m1 n0 n1 f0 f1 c0 c1 c2 c3
            obtain ⟨⟨m0, m1⟩, ⟨n0, n1, f0, f1⟩, c0, c1, c2, c3⟩ := R20.out.cells
            have hl0' := HL'.out a0
            have hl1' := HL'.out a1
            have C := hide R20.out.mark
            rw [HLEN.out] at C
            go_wp2_with fail
            refine C.out.mono ?_
            clear C
            rintro e w20 ⟨rfl, rfl⟩
            have C := hide (R20.out.is0 rfl (by omega) KX'.out hm2)
            go_wp2_with fail
            refine C.out.mono ?_
            clear C
            rintro e w21 ⟨rfl, r21⟩
            have R21 := hide r21
            clear r21
            clear m0 m1 n0 n1 f0 f1 c0 c1 c2 c3
            obtain ⟨⟨m0, m1⟩, ⟨n0, n1, f0, f1⟩, c0, c1, c2, c3⟩ := R21.out.cells
            have C := hide (R21.out.is1 rfl (by omega) KX'.out hm2)
            go_wp2_with fail
            refine C.out.mono ?_
            clear C
            rintro e w22 ⟨rfl, r22⟩
            have R22 := hide r22
            clear r22
            clear m0 m1 n0 n1 f0 f1 c0 c1 c2 c3
            go_wp2
            go_roundw
            case rel => exact ⟨c + 1, by omega, by simp, Y', ds', R22.out.play, KX'.out, HL'.out⟩
            case measure => simp [intOf]; omega
        · by_cases hA : xN < 0
          · have dA : decide (0 ≤ xN) = false := decide_eq_false (by omega)
            have C := hide (R0.out.backNo xN (.inl hA) (by omega))
            skip
            go_wp2_with fail
            refine C.out.mono ?_
            clear C
            rintro e w8 ⟨rfl, rfl⟩
            have KX' := KX
            have HL' : Hid (∀ b, (Y b).length + ds.length ≤ 2 * (c + 1)) := fun b => by have := HL.out b; omega
            have R20 := R0.out
            rw [← HR.out] at R20
            replace R20 := hide R20
            clear m0 m1 n0 n1 f0 f1 c0 c1 c2 c3
            obtain ⟨⟨m0, m1⟩, ⟨n0, n1, f0, f1⟩, c0, c1, c2, c3⟩ := R20.out.cells
            have hl0' := HL'.out a0
            have hl1' := HL'.out a1
            have C := hide R20.out.mark
            skip
            go_wp2_with fail
            refine C.out.mono ?_
            clear C
            rintro e w20 ⟨rfl, rfl⟩
            have C := hide (R20.out.is0 rfl (by omega) KX'.out hm2)
            go_wp2_with fail
            refine C.out.mono ?_
            clear C
            rintro e w21 ⟨rfl, r21⟩
            have R21 := hide r21
            clear r21
            clear m0 m1 n0 n1 f0 f1 c0 c1 c2 c3
            obtain ⟨⟨m0, m1⟩, ⟨n0, n1, f0, f1⟩, c0, c1, c2, c3⟩ := R21.out.cells
            have C := hide (R21.out.is1 rfl (by omega) KX'.out hm2)
            go_wp2_with fail
            refine C.out.mono ?_
            clear C
            rintro e w22 ⟨rfl, r22⟩
            have R22 := hide r22
            clear r22
            clear m0 m1 n0 n1 f0 f1 c0 c1 c2 c3
            go_wp2
            go_roundw
            case rel => exact ⟨c + 1, by omega, by simp, Y, ds, R22.out.play, KX'.out, HL'.out⟩
            case measure => simp [intOf]; omega
          · have dA : decide (0 ≤ xN) = true := decide_eq_true (by omega)
            by_cases hB : (ds.length : Int) < xN
            · have dB : decide (xN ≤ (ds.length : Int)) = false := decide_eq_false (by omega)
              have C := hide (R0.out.backNo xN (.inr hB) (by omega))
              skip
              go_wp2_with fail
              refine C.out.mono ?_
              clear C
              rintro e w8 ⟨rfl, rfl⟩
              have KX' := KX
              have HL' : Hid (∀ b, (Y b).length + ds.length ≤ 2 * (c + 1)) := fun b => by have := HL.out b; omega
              have R20 := R0.out
              rw [← HR.out] at R20
              replace R20 := hide R20
              clear m0 m1 n0 n1 f0 f1 c0 c1 c2 c3
              obtain ⟨⟨m0, m1⟩, ⟨n0, n1, f0, f1⟩, c0, c1, c2, c3⟩ := R20.out.cells
              have hl0' := HL'.out a0
              have hl1' := HL'.out a1
              have C := hide R20.out.mark
              skip
              go_wp2_with fail
              refine C.out.mono ?_
              clear C
              rintro e w20 ⟨rfl, rfl⟩
              have C := hide (R20.out.is0 rfl (by omega) KX'.out hm2)
              go_wp2_with fail
              refine C.out.mono ?_
              clear C
              rintro e w21 ⟨rfl, r21⟩
              have R21 := hide r21
              clear r21
              clear m0 m1 n0 n1 f0 f1 c0 c1 c2 c3
              obtain ⟨⟨m0, m1⟩, ⟨n0, n1, f0, f1⟩, c0, c1, c2, c3⟩ := R21.out.cells
              have C := hide (R21.out.is1 rfl (by omega) KX'.out hm2)
              go_wp2_with fail
              refine C.out.mono ?_
              clear C
              rintro e w22 ⟨rfl, r22⟩
              have R22 := hide r22
              clear r22
              clear m0 m1 n0 n1 f0 f1 c0 c1 c2 c3
              go_wp2
              go_roundw
              case rel => exact ⟨c + 1, by omega, by simp, Y, ds, R22.out.play, KX'.out, HL'.out⟩
              case measure => simp [intOf]; omega
            · obtain ⟨n, rfl⟩ : ∃ n : Nat, xN = n := ⟨xN.toNat, by omega⟩
              have hbd : ∀ b, (Y b).length ≤ 100000 := fun b => by have := HL.out b; omega
              have HBD := hide hbd
              clear hbd dA
              by_cases hC : n = ds.length
              · subst hC
                have C := hide (R0.out.back ds.length (Nat.le_refl _) (by omega) HBD.out)
                rw [List.drop_length, List.take_length, undoN_nil] at C
                go_wp2_with fail
                refine C.out.mono ?_
                clear C
                rintro e w8 ⟨rfl, r8⟩
                have R8 := hide r8
                clear r8 R0
                have KX' := KX
                have HL' : Hid (∀ b, (Y b).length + ds.length ≤ 2 * (c + 1)) := fun b => by have := HL.out b; omega
                have R20 := R8.out
                rw [← HR.out] at R20
                replace R20 := hide R20
                clear m0 m1 n0 n1 f0 f1 c0 c1 c2 c3
                obtain ⟨⟨m0, m1⟩, ⟨n0, n1, f0, f1⟩, c0, c1, c2, c3⟩ := R20.out.cells
                have hl0' := HL'.out a0
                have hl1' := HL'.out a1
                have C := hide R20.out.mark
                skip
                go_wp2_with fail
                refine C.out.mono ?_
                clear C
                rintro e w20 ⟨rfl, rfl⟩
                have C := hide (R20.out.is0 rfl (by omega) KX'.out hm2)
                go_wp2_with fail
                refine C.out.mono ?_
                clear C
                rintro e w21 ⟨rfl, r21⟩
                have R21 := hide r21
                clear r21
                clear m0 m1 n0 n1 f0 f1 c0 c1 c2 c3
                obtain ⟨⟨m0, m1⟩, ⟨n0, n1, f0, f1⟩, c0, c1, c2, c3⟩ := R21.out.cells
                have C := hide (R21.out.is1 rfl (by omega) KX'.out hm2)
                go_wp2_with fail
                refine C.out.mono ?_
                clear C
                rintro e w22 ⟨rfl, r22⟩
                have R22 := hide r22
                clear r22
                clear m0 m1 n0 n1 f0 f1 c0 c1 c2 c3
                go_wp2
                go_roundw
                case rel => exact ⟨c + 1, by omega, by simp, Y, ds, R22.out.play, KX'.out, HL'.out⟩
                case measure => simp [intOf]; omega
              · have hn : n < ds.length := by omega
                have dB : decide (n ≤ ds.length) = true := decide_eq_true (by omega)
                have dC : decide (n < ds.length) = true := decide_eq_true (by omega)
                have HM := hide R0.out.mine
                have C := hide (R0.out.back n (by omega) (by omega) HBD.out)
                skip
                go_wp2_with fail
                refine C.out.mono ?_
                clear C
                rintro e w8 ⟨rfl, r8⟩
                have hy : R[n]? = some (undoN kyInt (ds.drop n) Y a0, undoN kyInt (ds.drop n) Y a1) := by rw [← HR.out]; exact hisL_get _ _ _ _ hn
                rw [← HRL.out] at r8
                obtain ⟨g, b0, q0, b1, q1, eg, hgn, e3, e4, r9⟩ := r8.was hy
                cases eg
                simp only [] at e3 e4 r9
                have R9 := hide r9
                clear r8 r9 hy R0
                clear m0 m1 n0 n1 f0 f1 c0 c1 c2 c3
                obtain ⟨⟨m0, m1⟩, ⟨n0, n1, f0, f1⟩, c0, c1, c2, c3⟩ := R9.out.cells
                go_wp2_with fail
                have R10 := (((R9.out.put0 (List.Mem.head _)).put1 (List.Mem.tail _ (List.Mem.head _))).less).cut (n := n) (by rw [HRL.out]; omega)
                generalize (w8.setCell ⟨gn, 0, none⟩ _).setCell ⟨gn, 1, none⟩ _ = w10 at *
                replace R10 := hide R10
                clear R9 e3 e4
                obtain ⟨Y', hY'⟩ : ∃ Y', undoN kyInt (ds.drop n) Y = Y' := ⟨_, rfl⟩
                obtain ⟨ds', hds'⟩ : ∃ ds', ds.take n = ds' := ⟨_, rfl⟩
                have KX' : Hid (KW Y') := by show KW Y'; rw [← hY']; exact KX.out.undo _ fun d hd => HM.out d (List.mem_of_mem_drop hd)
                have HL' : Hid (∀ b, (Y' b).length + ds'.length ≤ 2 * (c + 1)) := by
                  intro b
                  rw [← hY', ← hds']
                  have h1 := undoN_len (ds.drop n) Y b; have h2 := HL.out b; rw [List.length_drop] at h1; rw [List.length_take]; omega
                have hY0 : undoN kyInt (ds.drop n) Y a0 = Y' a0 := by rw [← hY']; skip
                have hY1 : undoN kyInt (ds.drop n) Y a1 = Y' a1 := by rw [← hY']; skip
                have hH : R.take n = hisL a0 a1 Y' ds' := by rw [← hY', ← hds']; rw [hisL_take a0 a1 Y ds (by omega), HR.out]
                have hlen' : ds'.length = n := by rw [← hds']; rw [List.length_take]; omega
                have R19 := R10.out
                rw [hY', hds', hH] at R19
                have HLEN := hide hlen'
                have R20 := hide R19
                clear hY' hds' hH hY0 hY1 hlen' R19 R10 
                clear m0 m1 n0 n1 f0 f1 c0 c1 c2 c3
                obtain ⟨⟨m0, m1⟩, ⟨n0, n1, f0, f1⟩, c0, c1, c2, c3⟩ := R20.out.cells
                have hl0' := HL'.out a0
                have hl1' := HL'.out a1
                have C := hide R20.out.mark
                rw [HLEN.out] at C
                go_wp2_with fail
                refine C.out.mono ?_
                clear C
                rintro e w20 ⟨rfl, rfl⟩
                have C := hide (R20.out.is0 rfl (by omega) KX'.out hm2)
                go_wp2_with fail
                refine C.out.mono ?_
                clear C
                rintro e w21 ⟨rfl, r21⟩
                have R21 := hide r21
                clear r21
                clear m0 m1 n0 n1 f0 f1 c0 c1 c2 c3
                obtain ⟨⟨m0, m1⟩, ⟨n0, n1, f0, f1⟩, c0, c1, c2, c3⟩ := R21.out.cells
                have C := hide (R21.out.is1 rfl (by omega) KX'.out hm2)
                go_wp2_with fail
                refine C.out.mono ?_
                clear C
                rintro e w22 ⟨rfl, r22⟩
                have R22 := hide r22
                clear r22
                clear m0 m1 n0 n1 f0 f1 c0 c1 c2 c3
                go_wp2
                go_roundw
                case rel => exact ⟨c + 1, by omega, by simp, Y', ds', R22.out.play, KX'.out, HL'.out⟩
                case measure => simp [intOf]; omega
        · have C := hide (R0.out.keep)
          skip
          go_wp2_with fail
          refine C.out.mono ?_
          clear C
          rintro e w8 ⟨rfl, r8⟩
          have KX' := KX
          have HL' : Hid (∀ b, (Y b).length + ([] : Deeds).length ≤ 2 * (c + 1)) := fun b => by have := HL.out b; simp; omega
          have R20 := r8.none
          rw [show ([] : List (Kvs × Kvs)) = hisL a0 a1 Y [] from rfl] at R20
          replace R20 := hide R20
          clear r8 R0
          clear m0 m1 n0 n1 f0 f1 c0 c1 c2 c3
          obtain ⟨⟨m0, m1⟩, ⟨n0, n1, f0, f1⟩, c0, c1, c2, c3⟩ := R20.out.cells
          have hl0' := HL'.out a0
          have hl1' := HL'.out a1
          have C := hide R20.out.mark
          skip
          go_wp2_with fail
          refine C.out.mono ?_
          clear C
          rintro e w20 ⟨rfl, rfl⟩
          have C := hide (R20.out.is0 rfl (by omega) KX'.out hm2)
          go_wp2_with fail
          refine C.out.mono ?_
          clear C
          rintro e w21 ⟨rfl, r21⟩
          have R21 := hide r21
          clear r21
          clear m0 m1 n0 n1 f0 f1 c0 c1 c2 c3
          obtain ⟨⟨m0, m1⟩, ⟨n0, n1, f0, f1⟩, c0, c1, c2, c3⟩ := R21.out.cells
          have C := hide (R21.out.is1 rfl (by omega) KX'.out hm2)
          go_wp2_with fail
          refine C.out.mono ?_
          clear C
          rintro e w22 ⟨rfl, r22⟩
          have R22 := hide r22
          clear r22
          clear m0 m1 n0 n1 f0 f1 c0 c1 c2 c3
          go_wp2
          go_roundw
          case rel => exact ⟨c + 1, by omega, by simp, Y, ([] : Deeds), R22.out.play, KX'.out, HL'.out⟩
          case measure => simp [intOf]; omega
      · obtain rfl : c = xs.length := by omega
        have hl0 := hl a0
        obtain ⟨ao0, cap0, m0, hg, hr⟩ := hp.fin wk (by omega)
        have G := hide hg
        have HR := hide hr
        have BL := hide hp.bel
        clear hg hr hp hk hl
        generalize fv k (Y a0) = v at *
        generalize fh k (Y a0) = h at *
        go_wp2_with fail
        refine G.out.mono ?_
        clear G
        rintro e w8 ⟨rfl, b8⟩
        obtain ⟨n0, hr⟩ := HR.out w8 b8
        have C := hide hr
        have B8 := hide (BL.out.trans (b8.mono BL.out.size))
        clear m0 hr b8 HR
        go_wp2_with fail
        refine C.out.mono ?_
        clear C
        rintro e w9 ⟨rfl, b9⟩
        have B9 := hide (B1.out.trans ((B8.out.trans (b9.mono B8.out.size)).mono B1.out.size))
        clear b9
        go_wp2
        go_ret
        exact ⟨rfl, B9.out⟩
  · have d0 : decide ((60 : Int) < (xs.length : Int)) = true := decide_eq_true (by omega)
    go_enter Try.func3, Try.ntmps3
    go_wp2_with fail
    refine (lives12_any w).mono ?_
    rintro e w1 ⟨rfl, b1⟩
    have B1 := hide b1
    clear b1
    have C := hide (lives12_any w1)
    go_wp2_with (go_at_call 6; refine C.out.mono ?_; clear C; rintro e w2 ⟨rfl, b2⟩)
    go_ret
    exact ⟨rfl, B1.out.trans (b2.mono B1.out.size)⟩
end Go.Proofs.Ytnjijnphjiiceaa
