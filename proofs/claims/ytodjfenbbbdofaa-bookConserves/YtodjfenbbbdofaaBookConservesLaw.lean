/- BookConserves: no move changes a supply, and a supply changes by just what was minted and burned (gen-bookconserves.py). -/
import Derived.Test.YtodjfenbbbdofaaBkLaw2
import Derived.Test.YtodjfenbbbdofaaFrameBk
import Derived.Deep.RegionHeld3
import Derived.Test.YtodjfenbbbdofaaHand
namespace Go.Proofs.Ytodjfenbbbdofaa
set_option linter.unusedSimpArgs false
set_option linter.unusedVariables false
open Go.RowKit Go.Lib
attribute [local go_sem] setCell_drewN alloc_drewN

/-- An act's box. -/
structure ABox (w : World) (g : Nat) (x : Ac) (Fr : Nat → Prop) : Prop where
  c : w.cell? ⟨g, 0, none⟩ = some (.int .u8 x.k) ∧ w.cell? ⟨g, 1, none⟩ = some (.int .u8 x.t) ∧ w.cell? ⟨g, 2, none⟩ = some (.int .u8 x.f) ∧ w.cell? ⟨g, 3, none⟩ = some (.int .u8 x.o) ∧ w.cell? ⟨g, 4, none⟩ = some (.int .u64 (lm x.n 0)) ∧ w.cell? ⟨g, 5, none⟩ = some (.int .u64 (lm x.n 1)) ∧ w.cell? ⟨g, 6, none⟩ = some (.int .u64 (lm x.n 2)) ∧ w.cell? ⟨g, 7, none⟩ = some (.int .u64 (lm x.n 3))
  far : Fr g
theorem ABox.kp {w w' : World} {g : Nat} {x : Ac} {Fr : Nat → Prop} (h : ABox w g x Fr) (k : Kp Fr w w') : ABox w' g x Fr := by
  obtain ⟨⟨c0, c1, c2, c3, c4, c5, c6, c7⟩, f⟩ := h
  exact ⟨⟨(k.cell f).trans c0, (k.cell f).trans c1, (k.cell f).trans c2, (k.cell f).trans c3, (k.cell f).trans c4, (k.cell f).trans c5, (k.cell f).trans c6, (k.cell f).trans c7⟩, f⟩
theorem ABox.sub {w : World} {g : Nat} {x : Ac} {Fr Fr' : Nat → Prop} (h : ABox w g x Fr) (hs : ∀ k, Fr k → Fr' k) : ABox w g x Fr' := ⟨h.c, hs _ h.far⟩
theorem ABox.new (w : World) (x : Ac) {Fr : Nat → Prop} (hf : Fr w.heap.size) : ABox (w.alloc (.cells #[.int .u8 x.k, .int .u8 x.t, .int .u8 x.f, .int .u8 x.o, .int .u64 (lm x.n 0), .int .u64 (lm x.n 1), .int .u64 (lm x.n 2), .int .u64 (lm x.n 3)] 38)) w.heap.size x Fr := ⟨⟨by simp [go_sem], by simp [go_sem], by simp [go_sem], by simp [go_sem], by simp [go_sem], by simp [go_sem], by simp [go_sem], by simp [go_sem]⟩, hf⟩
/-- What the law holds behind its acts. -/
structure CI (W w : World) (bj bb gm gl i : Nat) : Prop where
  ex : ∃ n h Fr M D, BS W w bj bb n h Fr ∧ n ≤ 2 * i ∧ Num4 w gm Fr (fun k => k = gm ∨ k = gl) M (17 + i) ∧ Num4 w gl Fr (fun k => k = gm ∨ k = gl) D (17 + i) ∧ (gm ≠ bb ∧ gl ≠ bb ∧ gm ≠ gl) ∧ (∀ t : Nat, t < 4 → sup (h n) (t : Int) + D t = M t) ∧ (W.heap.size ≤ gm ∧ W.heap.size ≤ gl)
set_option maxRecDepth 100000 in
set_option maxHeartbeats 4000000 in
theorem bookConserves_walk (ao : Option Addr) (cap : Nat) (xs : List Ac) (W : World) (bs : xs.length ≤ cap ∧ cap ≤ maxLen ∧ Acs W ao xs ∧ ∀ x ∈ xs, Ac.Ok x) :
    Calls Try.prog 4 #[.slice ao xs.length cap] W fun e w' => e = .returned (.bool true) ∧ Below W.heap.size W w' := by
  obtain ⟨hcap, hmax, hacs, hok⟩ := bs
  have HACS := hide hacs
  have HOK := hide hok
  clear hacs hok
  by_cases hlen : 40 < xs.length
  · have hll : (40 : Int) < (xs.length : Int) := by omega
    go_enter Try.func4, Try.ntmps4
    go_wp2_with fail
    refine (lives13_any W).mono ?_
    rintro e w1 ⟨rfl, hb1⟩
    have HB1 := hide hb1
    clear hb1
    go_wp2_with fail
    refine (lives13_any w1).mono ?_
    rintro e w2 ⟨rfl, hb2⟩
    have HB2 := hide (bOn HB1.out hb2)
    clear hb2
    go_wp2
    go_ret
    exact ⟨rfl, HB2.out⟩
  · have hll : (xs.length : Int) ≤ 40 := by omega
    have hln : xs.length ≤ 40 := by omega
    go_enter Try.func4, Try.ntmps4
    go_wp2_with fail
    refine (lives13_any W).mono ?_
    rintro e w1 ⟨rfl, hb1⟩
    have HB1 := hide hb1
    have C := hide (new_l (w := w1) HB1.out (Fr := fun _ => False) (fun k h => h.elim))
    clear hb1
    go_wp2_with fail
    refine C.out.mono ?_
    clear C
    rintro e w2 ⟨bb, rfl, hbb, b, _⟩
    obtain ⟨w3, hw3⟩ : ∃ w3, (w2.alloc (.cells #[.slice none 0 0, .slice none 0 0, .slice none 0 0, .slice none 0 0] 48)).alloc (.cells #[.slice none 0 0, .slice none 0 0, .slice none 0 0, .slice none 0 0] 48) = w3 := ⟨_, rfl⟩
    obtain ⟨gm, hgm⟩ : ∃ gm, w2.heap.size = gm := ⟨_, rfl⟩
    have H0 : Hid (CI W w3 w1.heap.size bb gm (gm + 1) 0) := by
      have lb : bb < w2.heap.size := by obtain ⟨S, q, _⟩ := b.ex; exact q.lt
      have b3 : BS W w3 w1.heap.size bb 0 (fun _ => []) (fun k => False ∨ (k = gm ∨ k = gm + 1)) := b.addP (by rw [← hw3]; exact bAl (bAl (bMe w2))) (fun k hk => by rw [← hw3, ← hgm] at *; rcases hk with rfl | rfl <;> (simp; try omega))
      have z0 : ∀ j, j < 4 → w3.cell? ⟨gm, j, none⟩ = some (.slice none 0 0) := fun j hj => by
        rw [← hw3, ← hgm]
        match j, hj with
        | 0, _ => simp [go_sem]
        | 1, _ => simp [go_sem]
        | 2, _ => simp [go_sem]
        | 3, _ => simp [go_sem]
      have z1 : ∀ j, j < 4 → w3.cell? ⟨gm + 1, j, none⟩ = some (.slice none 0 0) := fun j hj => by
        rw [← hw3, ← hgm]
        match j, hj with
        | 0, _ => simp [go_sem]
        | 1, _ => simp [go_sem]
        | 2, _ => simp [go_sem]
        | 3, _ => simp [go_sem]
      have hle : W.heap.size ≤ w2.heap.size := b.be.size
      refine ⟨⟨0, _, _, fun _ => 0, fun _ => 0, b3, Nat.zero_le _, ⟨fun j hj => ⟨none, 0, 0, z0 j hj, Num.nil _ _, fun a e => by cases e⟩, fun o => by rw [← hw3, ← hgm]; simp [go_sem], .inr (.inl rfl)⟩, ⟨fun j hj => ⟨none, 0, 0, z1 j hj, Num.nil _ _, fun a e => by cases e⟩, fun o => by rw [← hw3, ← hgm]; simp [go_sem], .inr (.inr rfl)⟩, by omega, fun t ht => by simp [sup_nil], by omega⟩⟩
    have hle3 : Hid (bb < gm) := by obtain ⟨S, q, _⟩ := b.ex; rw [← hgm]; exact q.lt
    clear b
    go_wp2
    try rw [hw3]
    try rw [hgm]
    clear hw3 hgm
    go_loopw [26] (fun q wr => ∃ i : Nat, i ≤ xs.length ∧ q = .int .i64 i ∧ CI W wr w1.heap.size bb gm (gm + 1) i) (fun q _ => xs.length - (intOf q).toNat)
    case atStart => exact ⟨0, by omega, rfl, H0.out⟩
    case round =>
      obtain ⟨i, hi, rfl, hci⟩ := hrel
      have HC := hide hci
      clear hci H0
      by_cases hlt : i < xs.length
      · have hlt' : (i : Int) < (xs.length : Int) := by omega
        obtain ⟨x, hx⟩ : ∃ x, xs[i]? = some x := ⟨xs[i], List.getElem?_eq_getElem hlt⟩
        have hxo := HOK.out x (List.mem_of_getElem? hx)
        obtain ⟨n, h, Fr, M, D, hb, hn, hm, hd, hne, heq, hgw⟩ := HC.out.ex
        obtain ⟨b, off, rfl, a0, a1, a2, a3, a4, a5, a6, a7⟩ := HACS.out.got hb.be hx
        have LWM : Hid (gm < wr.heap.size) := hb.low _ hm.far
        have LWL : Hid (gm + 1 < wr.heap.size) := hb.low _ hd.far
        have HI := hide (And.intro hn (And.intro hne (And.intro heq hgw)))
        have HM := hide hm
        have HD := hide hd
        have HBs := hide hb
        have hwi : IntKind.i64.wrap ((i : Int) + 1) = ((i + 1 : Nat) : Int) := by rw [IntKind.wrap_i64]; omega
        clear hx hn hm hd hb hne heq hgw hlt HC
        have HN := hide (row_new x.n)
        go_wp2_with fail
        refine (HN.out _ hxo.n).mono ?_
        clear HN
        rintro e w4 ⟨ar, nr, cr, rfl, hr1, hr2, hr3⟩
        clear a0 a1 a2 a3 a4 a5 a6 a7
        obtain ⟨ga, hga⟩ : ∃ ga, wr.heap.size = ga := ⟨_, rfl⟩
        -- what stands behind the row
        have hk4 : Below wr.heap.size wr w4 := bOn (bAl (bMe wr)) hr2
        obtain ⟨Fr4, hF4⟩ : ∃ F, (fun k => Fr k ∨ (k = ga ∨ ∃ a, ar = some a ∧ k = a.block)) = F := ⟨_, rfl⟩
        have b4 : BS W w4 w1.heap.size bb n h Fr4 := by
          rw [← hF4]
          refine HBs.out.addP hk4 fun k hk => ?_
          rcases hk with rfl | ⟨a, rfl, rfl⟩
          · have := hr2.size; rw [← hga]; simp at this; omega
          · have q := hr3 a rfl; have := hr1.lt; simp at q; omega
        have sub4 : ∀ k, Fr k → Fr4 k := fun k hk => by rw [← hF4]; exact .inl hk
        have kp4 : Kp Fr wr w4 := HBs.out.kp hk4
        have m4 := hide ((HM.out.kp kp4).sub sub4)
        have d4 := hide ((HD.out.kp kp4).sub sub4)
        have n4 : NumF w4 ar nr cr x.n 16 Fr4 := ⟨hr1, fun a e => by rw [← hF4]; exact .inr (.inr ⟨a, e, rfl⟩)⟩
        have x4 : ABox w4 ga x Fr4 := by
          have hx0 := ABox.new wr x (Fr := fun k => k = ga) hga
          rw [hga] at hx0
          exact ⟨(hx0.kp ⟨hr2.size, fun k hk => hr2.block k (by rw [hk, ← hga]; simp)⟩).c, by rw [← hF4]; exact .inr (.inl rfl)⟩
        have B4 := hide b4
        have N4 := hide n4
        have X4 := hide x4
        have hn9 : n ≤ 9000 := by have := HI.out.1; omega
        obtain ⟨c0, c1, c2, c3, c4, c5, c6, c7⟩ := x4.c
        have hz0 := hxo.k
        have hz1 := hxo.t
        have HGA := hide hga
        rw [hga]
        clear b4 n4 x4 hk4 kp4 hF4 hr1 hr2 hr3 HM HD HBs hga
        have nga : ga ≠ gm ∧ ga ≠ gm + 1 ∧ gm ≠ ga ∧ gm + 1 ≠ ga := by
          have l1 := LWM.out
          have l2 := LWL.out
          have l3 := HGA.out
          omega
        have h3 : x.k % 3 = 0 ∨ x.k % 3 = 1 ∨ x.k % 3 = 2 := by omega
        have LGA : Hid (ga < w4.heap.size) := B4.out.low _ X4.out.far
        have LGM : Hid (gm < w4.heap.size) := B4.out.low _ m4.out.far
        have LGL : Hid (gm + 1 < w4.heap.size) := B4.out.low _ d4.out.far
        rcases h3 with hq | hq | hq
        · go_wp2_with fail
          refine (mint_l B4.out hxo.t hxo.f hxo.n hn9).mono ?_
          rintro e w5 ⟨rfl, n', h', b5, k5, x5⟩
          have B5 := hide b5
          have K5 := hide k5
          have X5 := hide x5
          obtain ⟨c0, c1, c2, c3, c4, c5, c6, c7⟩ := (X4.out.kp k5).c
          have LGA : Hid (ga < w5.heap.size) := Nat.lt_of_lt_of_le LGA.out k5.1
          have LGM : Hid (gm < w5.heap.size) := Nat.lt_of_lt_of_le LGM.out k5.1
          have LGL : Hid (gm + 1 < w5.heap.size) := Nat.lt_of_lt_of_le LGL.out k5.1
          clear b5 k5 x5
          by_cases hE : mintE (h n) x.t x.f x.n = 0
          · skip
            obtain ⟨j, hj⟩ : ∃ j : Nat, x.t = (j : Int) := ⟨x.t.toNat, by have := hxo.t.1; omega⟩
            have hs := sup_mint B4.out.good.1 hxo.t.1 hxo.f.1 hxo.n hE
            have hj4 : j < 4 := by have := hs.1; omega
            have HS := hide hs.2
            have M5 := hide (m4.out.kp K5.out)
            have D5 := hide (d4.out.kp K5.out)
            have N5 := hide (N4.out.kp K5.out)
            obtain ⟨aj, nj, cj, z1, z2⟩ := M5.out.c j hj4
            have fz := M5.out.fr
            have HA := fun w0 (hb : Below w5.heap.size w5 w0) => hide (add_new (w := w0) (z2.1.below hb) ((N5.out.1.mono (show 16 ≤ 17 + i by omega)).below hb) (by omega))
            have HAA := hide HA
            rw [hj] at c1
            have HJ := hide hj
            have HJ4 := hide hj4
            have hji : (j : Int) < 4 := by omega
            have hjm : (j : Int).tmod 4 = (j : Int) := by rw [Int.tmod_eq_emod_of_nonneg (by omega)]; omega
            have Z1 := hide z1
            have FZ := hide fz
            clear hs z2 HA hj hj4 c0 c2 c3 c4 c5 c6 c7 z1 fz
            go_wp2_with fail
            have X : Hid (w5.cell? ⟨ga, 1, none⟩ = some (.int .u8 (j : Int))) := hide c1
            refine wp_region_held_drew (S := fun w1 => w1.cell? ⟨ga, 1, none⟩ = some (.int .u8 (j : Int))) (by kernel_rfl) X.out (fun _ => ?_)
            refine tk0 (v := .pointer (some ⟨ga, 1, none⟩)) (by kernel_rfl) (by kernel_rfl) (by kernel_rfl) (fun _ _ _ h => h) X.out (Or.inl ⟨by rfl, fun w hw => by go_simp; try (with_reducible rfl)⟩) ?_
            simp only [Act.put, List.setIfInBounds_toArray, List.set_cons_zero, List.set_cons_succ]
            refine tk1 (v := .int .u8 (j : Int)) (by kernel_rfl) (by kernel_rfl) (by kernel_rfl) (fun _ _ _ h => h) X.out (Or.inl ⟨by rfl, fun w hw => by have h1 : _ = _ := hw; go_simp; try (with_reducible rfl)⟩) ?_
            simp only [Act.put, List.setIfInBounds_toArray, List.set_cons_zero, List.set_cons_succ]
            refine tk2 (v := .int .u8 (j : Int)) (by kernel_rfl) (by kernel_rfl) (by kernel_rfl) (fun _ _ _ h => h) X.out (Or.inl ⟨by rfl, fun w hw => by go_simp; try (with_reducible rfl)⟩) ?_
            simp only [Act.put, List.setIfInBounds_toArray, List.set_cons_zero, List.set_cons_succ]
            refine tk3 (v := .pointer (some ⟨ga, 1, none⟩)) (by kernel_rfl) (by kernel_rfl) (by kernel_rfl) (fun _ _ _ h => h) X.out (Or.inl ⟨by rfl, fun w hw => by go_simp; try (with_reducible rfl)⟩) ?_
            simp only [Act.put, List.setIfInBounds_toArray, List.set_cons_zero, List.set_cons_succ]
            refine tk4 (v := .int .u8 (j : Int)) (by kernel_rfl) (by kernel_rfl) (by kernel_rfl) (fun _ _ _ h => h) X.out (Or.inl ⟨by rfl, fun w hw => by have h1 : _ = _ := hw; go_simp; try (with_reducible rfl)⟩) ?_
            simp only [Act.put, List.setIfInBounds_toArray, List.set_cons_zero, List.set_cons_succ]
            refine tk5 (v := .int .u8 (j : Int)) (by kernel_rfl) (by kernel_rfl) (by kernel_rfl) (fun _ _ _ h => h) X.out (Or.inl ⟨by rfl, fun w hw => by go_simp; try (with_reducible rfl)⟩) ?_
            simp only [Act.put, List.setIfInBounds_toArray, List.set_cons_zero, List.set_cons_succ]
            refine tk6 (v := .pointer (some ⟨gm, j, none⟩)) (by kernel_rfl) (by kernel_rfl) (by kernel_rfl) (fun _ _ _ h => h) X.out (Or.inl ⟨by rfl, fun w hw => by go_simp; try (with_reducible rfl)⟩) ?_
            simp only [Act.put, List.setIfInBounds_toArray, List.set_cons_zero, List.set_cons_succ]
            refine tk8 (v := .slice ar nr cr) (by kernel_rfl) (by kernel_rfl) (by kernel_rfl) (fun _ _ _ h => h) X.out (Or.inl ⟨by rfl, fun w hw => by go_simp; try (with_reducible rfl)⟩) ?_
            simp only [Act.put, List.setIfInBounds_toArray, List.set_cons_zero, List.set_cons_succ]
            refine wpAnyH_ready (rs := [7]) (by kernel_rfl) (by simp) ?_
            refine rd7 (fun K hK => ?_) AllReadyH.nil
            have z1 := Z1.out
            go_simp
            clear z1
            refine hK.out _ _ X.out (fun _ => ?_)
            clear hK K
            refine wpAnyH_ready (rs := [9]) (by kernel_rfl) (by simp) ?_
            refine rd9 (fun K hK => ?_) AllReadyH.nil
            go_simp
            refine (HAA.out _ (bMe w5).drew).out.mono ?_
            clear HAA
            rintro e w6 ⟨ao', n6, cap', rfl, h61, hb6, h63⟩
            simp only []
            have hb56 := bOn (bMe w5).drew hb6
            have c16 := ((bcell hb56).1 _ _ LGA.out).trans c1
            have z6 := hide (((bcell hb56).1 _ _ LGM.out).trans Z1.out)
            have f6 := hide (((bcell hb56).2 _ j LGM.out).trans (FZ.out j))
            have H61 := hide h61
            have HB6 := hide hb56
            have H63 := hide (show New w5 ao' from h63)
            clear h61 hb6 h63 hb56
            replace X : Hid (w6.cell? ⟨ga, 1, none⟩ = some (.int .u8 (j : Int))) := hide c16
            refine hK.out _ _ X.out (fun _ => ?_)
            clear hK K
            refine tk10 (v := .pointer (some ⟨gm, j, none⟩)) (by kernel_rfl) (by kernel_rfl) (by kernel_rfl) (fun _ _ _ h => h) X.out (Or.inl ⟨by rfl, fun w hw => by go_simp; try (with_reducible rfl)⟩) ?_
            simp only [Act.put, List.setIfInBounds_toArray, List.set_cons_zero, List.set_cons_succ]
            refine wpAnyH_ready (rs := [11]) (by kernel_rfl) (by simp) ?_
            refine rd11 (fun K hK => ?_) AllReadyH.nil
            have z6' := z6.out
            have f6' := f6.out
            go_simp
            clear z6' f6'
            have c17 : (w6.setCell ⟨gm, j, none⟩ (.slice ao' n6 cap')).cell? ⟨ga, 1, none⟩ = some (.int .u8 (j : Int)) := (World.cell?_of_block (w := w6) (a := ⟨ga, 1, none⟩) (Below.heap_setCell _ _ _ _ (by simp only []; omega))).trans X.out
            replace X : Hid ((w6.setCell ⟨gm, j, none⟩ (.slice ao' n6 cap')).cell? ⟨ga, 1, none⟩ = some (.int .u8 (j : Int))) := hide c17
            refine hK.out _ _ X.out (fun _ => ?_)
            clear hK K
            refine wpAnyH_done (by kernel_rfl) ?_ _
            have hT : Hid (CI W (w6.setCell ⟨gm, j, none⟩ (.slice ao' n6 cap')) w1.heap.size bb gm (gm + 1) (i + 1)) := by
              obtain ⟨q1, q2, q3, q4⟩ := HI.out
              have new6 : ∀ a, ao' = some a → w5.heap.size ≤ a.block ∧ a.block < w6.heap.size := fun a e => ⟨H63.out a e, by have := H61.out; rw [e] at this; exact this.lt⟩
              have b6 := B5.out.addP (P := fun k => ∃ a, ao' = some a ∧ k = a.block) HB6.out (fun k ⟨a, e, ek⟩ => ek ▸ new6 a e)
              have kp6 := B5.out.kp HB6.out
              have m6 := ((M5.out.kp kp6).sub (Fr' := fun k => Fr4 k ∨ ∃ a, ao' = some a ∧ k = a.block) (fun k hk => .inl hk)).mono (show 17 + i ≤ 17 + (i + 1) by omega)
              have d6 := ((D5.out.kp kp6).sub (Fr' := fun k => Fr4 k ∨ ∃ a, ao' = some a ∧ k = a.block) (fun k hk => .inl hk)).mono (show 17 + i ≤ 17 + (i + 1) by omega)
              have l1 := LGM.out
              have l2 := LGL.out
              have n6f : NumF w6 ao' n6 cap' (M j + x.n) (17 + (i + 1)) (fun k => (Fr4 k ∨ ∃ a, ao' = some a ∧ k = a.block) ∧ ¬ (k = gm ∨ k = gm + 1)) := ⟨H61.out.mono (by omega), fun a e => ⟨.inr ⟨a, e, rfl⟩, by have := new6 a e; omega⟩⟩
              have m7 := m6.put (.inl rfl) HJ4.out n6f
              have d7 := d6.other (g' := gm) (o := j) (v := .slice ao' n6 cap') (.inl rfl) (by omega)
              have b7 := b6.turn (g := gm) (w' := w6.setCell ⟨gm, j, none⟩ (.slice ao' n6 cap')) m6.far (by have := q2; omega) (by simp [World.setCell]) (fun k _ hk => Below.heap_setCell _ _ _ _ hk) (b6.be.setCell (p := ⟨gm, j, none⟩) (by have := q4; simp only []; omega) _)
              exact ⟨n', h', _, _, _, b7, by have := X5.out.up; omega, m7, d7, q2, fun t ht => by
                have e1 := q3 t ht
                rw [X5.out.now, HS.out, HJ.out]
                by_cases e : t = j
                · subst e; simp; omega
                · have e2 : ¬ (j : Int) = (t : Int) := by omega
                  simp only [e, e2, if_false]
                  omega, q4⟩
            clear X z6 f6
            go_wp2
            exact ⟨⟨i + 1, by omega, by simp, hT.out⟩, by simp [intOf]; omega⟩
          · have hLL := hide (show mintL (h n) x.t x.f x.n = h n from by unfold mintL; rw [if_neg hE])
            obtain ⟨E, hEE⟩ : ∃ E, mintE (h n) x.t x.f x.n = E := ⟨_, rfl⟩
            rw [hEE]
            rw [hEE] at hE
            have hT : Hid (CI W w5 w1.heap.size bb gm (gm + 1) (i + 1)) := by
              obtain ⟨q1, q2, q3, q4⟩ := HI.out
              exact ⟨n', h', Fr4, M, D, B5.out, by have := X5.out.up; omega, (m4.out.kp K5.out).mono (by omega), (d4.out.kp K5.out).mono (by omega), q2, fun t ht => by rw [X5.out.now, hLL.out]; exact q3 t ht, q4⟩
            go_wp2
            exact ⟨⟨i + 1, by omega, by simp, hT.out⟩, by simp [intOf]; omega⟩
        · go_wp2_with fail
          refine (burn_l B4.out hxo.t hxo.f hxo.n hn9).mono ?_
          rintro e w5 ⟨rfl, n', h', b5, k5, x5⟩
          have B5 := hide b5
          have K5 := hide k5
          have X5 := hide x5
          obtain ⟨c0, c1, c2, c3, c4, c5, c6, c7⟩ := (X4.out.kp k5).c
          have LGA : Hid (ga < w5.heap.size) := Nat.lt_of_lt_of_le LGA.out k5.1
          have LGM : Hid (gm < w5.heap.size) := Nat.lt_of_lt_of_le LGM.out k5.1
          have LGL : Hid (gm + 1 < w5.heap.size) := Nat.lt_of_lt_of_le LGL.out k5.1
          clear b5 k5 x5
          by_cases hE : burnE (h n) x.t x.f x.n = 0
          · skip
            obtain ⟨j, hj⟩ : ∃ j : Nat, x.t = (j : Int) := ⟨x.t.toNat, by have := hxo.t.1; omega⟩
            have hs := sup_burn B4.out.good.1 hxo.t.1 hxo.f.1 hxo.n hE
            have hj4 : j < 4 := by have := hs.1; omega
            have HS := hide hs.2
            have M5 := hide (d4.out.kp K5.out)
            have D5 := hide (m4.out.kp K5.out)
            have N5 := hide (N4.out.kp K5.out)
            obtain ⟨aj, nj, cj, z1, z2⟩ := M5.out.c j hj4
            have fz := M5.out.fr
            have HA := fun w0 (hb : Below w5.heap.size w5 w0) => hide (add_new (w := w0) (z2.1.below hb) ((N5.out.1.mono (show 16 ≤ 17 + i by omega)).below hb) (by omega))
            have HAA := hide HA
            rw [hj] at c1
            have HJ := hide hj
            have HJ4 := hide hj4
            have hji : (j : Int) < 4 := by omega
            have hjm : (j : Int).tmod 4 = (j : Int) := by rw [Int.tmod_eq_emod_of_nonneg (by omega)]; omega
            have Z1 := hide z1
            have FZ := hide fz
            clear hs z2 HA hj hj4 c0 c2 c3 c4 c5 c6 c7 z1 fz
            go_wp2_with fail
            have X : Hid (w5.cell? ⟨ga, 1, none⟩ = some (.int .u8 (j : Int))) := hide c1
            refine wp_region_held_drew (S := fun w1 => w1.cell? ⟨ga, 1, none⟩ = some (.int .u8 (j : Int))) (by kernel_rfl) X.out (fun _ => ?_)
            refine tk0 (v := .pointer (some ⟨ga, 1, none⟩)) (by kernel_rfl) (by kernel_rfl) (by kernel_rfl) (fun _ _ _ h => h) X.out (Or.inl ⟨by rfl, fun w hw => by go_simp; try (with_reducible rfl)⟩) ?_
            simp only [Act.put, List.setIfInBounds_toArray, List.set_cons_zero, List.set_cons_succ]
            refine tk1 (v := .int .u8 (j : Int)) (by kernel_rfl) (by kernel_rfl) (by kernel_rfl) (fun _ _ _ h => h) X.out (Or.inl ⟨by rfl, fun w hw => by have h1 : _ = _ := hw; go_simp; try (with_reducible rfl)⟩) ?_
            simp only [Act.put, List.setIfInBounds_toArray, List.set_cons_zero, List.set_cons_succ]
            refine tk2 (v := .int .u8 (j : Int)) (by kernel_rfl) (by kernel_rfl) (by kernel_rfl) (fun _ _ _ h => h) X.out (Or.inl ⟨by rfl, fun w hw => by go_simp; try (with_reducible rfl)⟩) ?_
            simp only [Act.put, List.setIfInBounds_toArray, List.set_cons_zero, List.set_cons_succ]
            refine tk3 (v := .pointer (some ⟨ga, 1, none⟩)) (by kernel_rfl) (by kernel_rfl) (by kernel_rfl) (fun _ _ _ h => h) X.out (Or.inl ⟨by rfl, fun w hw => by go_simp; try (with_reducible rfl)⟩) ?_
            simp only [Act.put, List.setIfInBounds_toArray, List.set_cons_zero, List.set_cons_succ]
            refine tk4 (v := .int .u8 (j : Int)) (by kernel_rfl) (by kernel_rfl) (by kernel_rfl) (fun _ _ _ h => h) X.out (Or.inl ⟨by rfl, fun w hw => by have h1 : _ = _ := hw; go_simp; try (with_reducible rfl)⟩) ?_
            simp only [Act.put, List.setIfInBounds_toArray, List.set_cons_zero, List.set_cons_succ]
            refine tk5 (v := .int .u8 (j : Int)) (by kernel_rfl) (by kernel_rfl) (by kernel_rfl) (fun _ _ _ h => h) X.out (Or.inl ⟨by rfl, fun w hw => by go_simp; try (with_reducible rfl)⟩) ?_
            simp only [Act.put, List.setIfInBounds_toArray, List.set_cons_zero, List.set_cons_succ]
            refine tk6 (v := .pointer (some ⟨gm + 1, j, none⟩)) (by kernel_rfl) (by kernel_rfl) (by kernel_rfl) (fun _ _ _ h => h) X.out (Or.inl ⟨by rfl, fun w hw => by go_simp; try (with_reducible rfl)⟩) ?_
            simp only [Act.put, List.setIfInBounds_toArray, List.set_cons_zero, List.set_cons_succ]
            refine tk8 (v := .slice ar nr cr) (by kernel_rfl) (by kernel_rfl) (by kernel_rfl) (fun _ _ _ h => h) X.out (Or.inl ⟨by rfl, fun w hw => by go_simp; try (with_reducible rfl)⟩) ?_
            simp only [Act.put, List.setIfInBounds_toArray, List.set_cons_zero, List.set_cons_succ]
            refine wpAnyH_ready (rs := [7]) (by kernel_rfl) (by simp) ?_
            refine rd7 (fun K hK => ?_) AllReadyH.nil
            have z1 := Z1.out
            go_simp
            clear z1
            refine hK.out _ _ X.out (fun _ => ?_)
            clear hK K
            refine wpAnyH_ready (rs := [9]) (by kernel_rfl) (by simp) ?_
            refine rd9 (fun K hK => ?_) AllReadyH.nil
            go_simp
            refine (HAA.out _ (bMe w5).drew).out.mono ?_
            clear HAA
            rintro e w6 ⟨ao', n6, cap', rfl, h61, hb6, h63⟩
            simp only []
            have hb56 := bOn (bMe w5).drew hb6
            have c16 := ((bcell hb56).1 _ _ LGA.out).trans c1
            have z6 := hide (((bcell hb56).1 _ _ LGL.out).trans Z1.out)
            have f6 := hide (((bcell hb56).2 _ j LGL.out).trans (FZ.out j))
            have H61 := hide h61
            have HB6 := hide hb56
            have H63 := hide (show New w5 ao' from h63)
            clear h61 hb6 h63 hb56
            replace X : Hid (w6.cell? ⟨ga, 1, none⟩ = some (.int .u8 (j : Int))) := hide c16
            refine hK.out _ _ X.out (fun _ => ?_)
            clear hK K
            refine tk10 (v := .pointer (some ⟨gm + 1, j, none⟩)) (by kernel_rfl) (by kernel_rfl) (by kernel_rfl) (fun _ _ _ h => h) X.out (Or.inl ⟨by rfl, fun w hw => by go_simp; try (with_reducible rfl)⟩) ?_
            simp only [Act.put, List.setIfInBounds_toArray, List.set_cons_zero, List.set_cons_succ]
            refine wpAnyH_ready (rs := [11]) (by kernel_rfl) (by simp) ?_
            refine rd11 (fun K hK => ?_) AllReadyH.nil
            have z6' := z6.out
            have f6' := f6.out
            go_simp
            clear z6' f6'
            have c17 : (w6.setCell ⟨gm + 1, j, none⟩ (.slice ao' n6 cap')).cell? ⟨ga, 1, none⟩ = some (.int .u8 (j : Int)) := (World.cell?_of_block (w := w6) (a := ⟨ga, 1, none⟩) (Below.heap_setCell _ _ _ _ (by simp only []; omega))).trans X.out
            replace X : Hid ((w6.setCell ⟨gm + 1, j, none⟩ (.slice ao' n6 cap')).cell? ⟨ga, 1, none⟩ = some (.int .u8 (j : Int))) := hide c17
            refine hK.out _ _ X.out (fun _ => ?_)
            clear hK K
            refine wpAnyH_done (by kernel_rfl) ?_ _
            have hT : Hid (CI W (w6.setCell ⟨gm + 1, j, none⟩ (.slice ao' n6 cap')) w1.heap.size bb gm (gm + 1) (i + 1)) := by
              obtain ⟨q1, q2, q3, q4⟩ := HI.out
              have new6 : ∀ a, ao' = some a → w5.heap.size ≤ a.block ∧ a.block < w6.heap.size := fun a e => ⟨H63.out a e, by have := H61.out; rw [e] at this; exact this.lt⟩
              have b6 := B5.out.addP (P := fun k => ∃ a, ao' = some a ∧ k = a.block) HB6.out (fun k ⟨a, e, ek⟩ => ek ▸ new6 a e)
              have kp6 := B5.out.kp HB6.out
              have m6 := ((M5.out.kp kp6).sub (Fr' := fun k => Fr4 k ∨ ∃ a, ao' = some a ∧ k = a.block) (fun k hk => .inl hk)).mono (show 17 + i ≤ 17 + (i + 1) by omega)
              have d6 := ((D5.out.kp kp6).sub (Fr' := fun k => Fr4 k ∨ ∃ a, ao' = some a ∧ k = a.block) (fun k hk => .inl hk)).mono (show 17 + i ≤ 17 + (i + 1) by omega)
              have l1 := LGM.out
              have l2 := LGL.out
              have n6f : NumF w6 ao' n6 cap' (D j + x.n) (17 + (i + 1)) (fun k => (Fr4 k ∨ ∃ a, ao' = some a ∧ k = a.block) ∧ ¬ (k = gm ∨ k = gm + 1)) := ⟨H61.out.mono (by omega), fun a e => ⟨.inr ⟨a, e, rfl⟩, by have := new6 a e; omega⟩⟩
              have m7 := m6.put (.inr rfl) HJ4.out n6f
              have d7 := d6.other (g' := gm + 1) (o := j) (v := .slice ao' n6 cap') (.inr rfl) (by omega)
              have b7 := b6.turn (g := gm + 1) (w' := w6.setCell ⟨gm + 1, j, none⟩ (.slice ao' n6 cap')) m6.far (by have := q2; omega) (by simp [World.setCell]) (fun k _ hk => Below.heap_setCell _ _ _ _ hk) (b6.be.setCell (p := ⟨gm + 1, j, none⟩) (by have := q4; simp only []; omega) _)
              exact ⟨n', h', _, _, _, b7, by have := X5.out.up; omega, d7, m7, q2, fun t ht => by
                have e1 := q3 t ht
                rw [X5.out.now, HS.out, HJ.out]
                by_cases e : t = j
                · subst e; simp; omega
                · have e2 : ¬ (j : Int) = (t : Int) := by omega
                  simp only [e, e2, if_false]
                  omega, q4⟩
            clear X z6 f6
            go_wp2
            exact ⟨⟨i + 1, by omega, by simp, hT.out⟩, by simp [intOf]; omega⟩
          · have hLL := hide (show burnL (h n) x.t x.f x.n = h n from by unfold burnL; rw [if_neg hE])
            obtain ⟨E, hEE⟩ : ∃ E, burnE (h n) x.t x.f x.n = E := ⟨_, rfl⟩
            rw [hEE]
            rw [hEE] at hE
            have hT : Hid (CI W w5 w1.heap.size bb gm (gm + 1) (i + 1)) := by
              obtain ⟨q1, q2, q3, q4⟩ := HI.out
              exact ⟨n', h', Fr4, M, D, B5.out, by have := X5.out.up; omega, (m4.out.kp K5.out).mono (by omega), (d4.out.kp K5.out).mono (by omega), q2, fun t ht => by rw [X5.out.now, hLL.out]; exact q3 t ht, q4⟩
            go_wp2
            exact ⟨⟨i + 1, by omega, by simp, hT.out⟩, by simp [intOf]; omega⟩
        · go_wp2_with fail
          refine (move_l B4.out hxo.t hxo.f hxo.o hxo.n hn9).mono ?_
          rintro e w5 ⟨rfl, n', h', b5, k5, x5⟩
          have B5 := hide b5
          have K5 := hide k5
          have X5 := hide x5
          obtain ⟨c0, c1, c2, c3, c4, c5, c6, c7⟩ := (X4.out.kp k5).c
          have LGA : Hid (ga < w5.heap.size) := Nat.lt_of_lt_of_le LGA.out k5.1
          have LGM : Hid (gm < w5.heap.size) := Nat.lt_of_lt_of_le LGM.out k5.1
          have LGL : Hid (gm + 1 < w5.heap.size) := Nat.lt_of_lt_of_le LGL.out k5.1
          clear b5 k5 x5
          have hT : Hid (CI W w5 w1.heap.size bb gm (gm + 1) (i + 1)) := by
            obtain ⟨q1, q2, q3, q4⟩ := HI.out
            exact ⟨n', h', Fr4, M, D, B5.out, by have := X5.out.up; omega, (m4.out.kp K5.out).mono (by omega), (d4.out.kp K5.out).mono (by omega), q2, fun t ht => by rw [X5.out.now, sup_move B4.out.good.1 B4.out.good.2.2 hxo.t.1 hxo.f.1 hxo.o.1 hxo.n]; exact q3 t ht, q4⟩
          go_wp2
          exact ⟨⟨i + 1, by omega, by simp, hT.out⟩, by simp [intOf]; omega⟩
      · obtain rfl : i = xs.length := by omega
        obtain ⟨n, h, Fr, M, D, hb, hn, hm, hd, hne, heq, hgw⟩ := HC.out.ex
        have HM := hide hm
        have HD := hide hd
        have HBs := hide hb
        have HEQ := hide heq
        clear HC hn hm hd hb hne heq hgw hlt
        obtain ⟨wz, rfl⟩ : ∃ wz, wz = wr := ⟨_, rfl⟩
        go_wp2
        go_loopw [91] (fun q w2 => ∃ t : Nat, t ≤ 4 ∧ q = .int .u8 t ∧ Below wz.heap.size wz w2) (fun q _ => 4 - (intOf q).toNat)
        case atStart => exact ⟨0, by omega, rfl, bMe wz⟩
        case round =>
          obtain ⟨t, ht, rfl, hbt⟩ := hrel
          have HBT := hide hbt
          clear hbt
          by_cases hlt : t < 4
          · have hlt' : (t : Int) < 4 := by omega
            have B0 := hide (HBs.out.below HBT.out)
            go_wp2
            go_loopw [94, 10] (fun q v w3 => ∃ p : Nat, p ≤ 18 ∧ q = .int .u8 p ∧ Below wz.heap.size wz w3 ∧ ∃ ao0 n0 c0, v = .slice ao0 n0 c0 ∧ Num w3 ao0 n0 c0 (sums (fun p => bal (h n) ((t : Int), (p : Int))) p) (16 + p)) (fun q _ _ => 18 - (intOf q).toNat)
            case atStart => exact ⟨0, by omega, rfl, HBT.out, none, 0, 0, rfl, Num.nil _ _⟩
            case round =>
              obtain ⟨p, hp, rfl, hb3, ao0, n0, c0, rfl, hnum⟩ := hrel
              have HB3 := hide hb3
              have HNM := hide hnum
              clear hb3 hnum
              by_cases hlp : p < 18
              · have hlp' : (p : Int) < 18 := by omega
                have C1 := hide (balance_l (HBs.out.below HB3.out) (t := (t : Int)) (p := (p : Int)) (by omega) (by omega))
                obtain ⟨Bv, hBv⟩ : ∃ B, bal (h n) ((t : Int), (p : Int)) = B := ⟨_, rfl⟩
                rw [hBv] at C1
                have hBin : In Bv := hBv ▸ bal_in _ _
                have HBV := hide hBv
                clear hBv
                go_wp2_with fail
                refine C1.out.mono ?_
                clear C1
                rintro e w4 ⟨rfl, hb4⟩
                have HB4 := hide hb4
                clear hb4
                go_wp2_with fail
                refine (row_of Bv w4 hBin).mono ?_
                rintro e w5 ⟨a5, n5, c5, rfl, h51, h52⟩
                have HB5 := hide (bOn HB4.out h52)
                have C2 := hide (add_any ((HNM.out.below HB5.out)) (h51.mono (show 16 ≤ 16 + p by omega)) (by omega))
                clear h51 h52
                go_wp2_with fail
                refine C2.out.mono ?_
                clear C2
                rintro e w6 ⟨a6, n6, c6, rfl, h61, h62⟩
                have T6 := hide (show Below wz.heap.size wz w6 ∧ Num w6 a6 n6 c6 (sums (fun p => bal (h n) ((t : Int), (p : Int))) (p + 1)) (16 + (p + 1)) from ⟨bOn (bOn HB3.out HB5.out) h62, by
                  show Num w6 a6 n6 c6 (sums (fun p => bal (h n) ((t : Int), (p : Int))) p + bal (h n) ((t : Int), (p : Int))) (16 + p + 1)
                  rw [HBV.out]; exact h61⟩)
                clear h61 h62
                go_wp2
                exact ⟨⟨p + 1, by omega, by simp, T6.out.1, _, _, _, rfl, T6.out.2⟩, by simp [intOf]; omega⟩
              · obtain rfl : p = 18 := by omega
                have C1 := hide (supply_l (HBs.out.below HB3.out) (t := (t : Int)) (by omega))
                have hSin : In (sup (h n) (t : Int)) := HBs.out.good.2.2 _
                have e18 : sums (fun p => bal (h n) ((t : Int), (p : Int))) 18 = sup (h n) (t : Int) := rfl
                rw [e18] at HNM
                obtain ⟨am, nm', cm, zm, hm1⟩ := (HM.out.kp (HBs.out.kp HB3.out)).c t hlt
                obtain ⟨ad, nd, cd, zd, hd1⟩ := (HD.out.kp (HBs.out.kp HB3.out)).c t hlt
                have hMD := HEQ.out t hlt
                have LGM : Hid (gm < wr.heap.size) := Nat.lt_of_lt_of_le (HBs.out.low _ HM.out.far) HB3.out.size
                have LGL : Hid (gm + 1 < wr.heap.size) := Nat.lt_of_lt_of_le (HBs.out.low _ HD.out.far) HB3.out.size
                obtain ⟨Sv, hSv⟩ : ∃ B, sup (h n) (t : Int) = B := ⟨_, rfl⟩
                rw [hSv] at C1 hSin HNM hMD
                have HM1 := hide hm1.1
                have HD1 := hide hd1.1
                have HMD := hide hMD
                have ZM := hide zm
                have ZD := hide zd
                clear hSv e18 hm1 hd1 hMD zm zd
                go_wp2_with fail
                refine C1.out.mono ?_
                clear C1
                rintro e w4 ⟨rfl, hb4⟩
                have HB4 := hide hb4
                clear hb4
                go_wp2_with fail
                refine (row_of Sv w4 hSin).mono ?_
                rintro e w5 ⟨av, nv, cv, rfl, h51, h52⟩
                have HB5 := hide (bOn HB4.out h52)
                have HS5 := hide h51
                have N5 := hide (HNM.out.below HB5.out)
                have M5 := hide (HM1.out.below HB5.out)
                have D5 := hide (HD1.out.below HB5.out)
                have cm5 := ((bcell HB5.out).1 _ t LGM.out).trans ZM.out
                have cd5 := ((bcell HB5.out).1 _ t LGL.out).trans ZD.out
                clear h51 h52
                have Q1 := fun w0 (hb : Below w5.heap.size w5 w0) => hide (cmp_same (w := w0) (N5.out.below hb) (HS5.out.below hb) rfl)
                have Q2 := fun w0 (hb : Below w5.heap.size w5 w0) => hide (add_new (w := w0) (L := 57) ((HS5.out.below hb).mono (by omega)) ((D5.out.below hb).mono (by omega)) (by omega))
                have QQ1 := hide Q1
                have QQ2 := hide Q2
                clear Q1 Q2
                have lgm5 : gm < w5.heap.size := Nat.lt_of_lt_of_le LGM.out HB5.out.size
                have lgl5 : gm + 1 < w5.heap.size := Nat.lt_of_lt_of_le LGL.out HB5.out.size
                go_wp2_with fail
                go_region_held3 (fun w' => w'.cell? ⟨gm, t, none⟩ = some (.slice am nm' cm) ∧ w'.cell? ⟨gm + 1, t, none⟩ = some (.slice ad nd cd)) (first | with_reducible exact ⟨cm5, cd5⟩ | (simp [go_sem, cm5, cd5]; done) | exact S6.out) ((first
                  | (go_at_call 16; refine (QQ2.out _ (bMe w5).drew).out.mono ?_; rintro e w6 ⟨a6, n6, c6, rfl, h61, h62, h63⟩; have hb56 := bOn (bMe w5).drew h62; have S6 := hide (show w6.cell? ⟨gm, t, none⟩ = some (.slice am nm' cm) ∧ w6.cell? ⟨gm + 1, t, none⟩ = some (.slice ad nd cd) from ⟨((bcell hb56).1 _ _ lgm5).trans cm5, ((bcell hb56).1 _ _ lgl5).trans cd5⟩); have Q3 := hide (cmp_same h61 (M5.out.below hb56) HMD.out); have HB6 := hide (bOn HB5.out hb56); clear h61 h62 h63 hb56)
                  | (go_at_call 19; refine Q3.out.mono ?_; rintro e w7 ⟨rfl, rfl⟩)
                  | (go_at_call 19; refine (QQ1.out _ (bMe w5).drew).out.mono ?_; rintro e w7 ⟨rfl, rfl⟩)))

                go_wp2
                exact ⟨⟨t + 1, by omega, by simp, bOn HB3.out HB6.out⟩, by simp [intOf]; omega⟩
          · obtain rfl : t = 4 := by omega
            have HBZ := hide (HBs.out.below HBT.out)
            go_wp2
            go_ret
            exact ⟨rfl, HBZ.out.be⟩
end Go.Proofs.Ytodjfenbbbdofaa
