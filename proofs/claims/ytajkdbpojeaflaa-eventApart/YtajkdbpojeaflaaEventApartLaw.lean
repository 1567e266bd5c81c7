/- The walk of sponsionlaw09.EventApart over this translation. -/
import Derived.Test.YtajkdbpojeaflaaEvtMore
import Derived.Test.YtajkdbpojeaflaaEvtRead
import Derived.Test.YtajkdbpojeaflaaEvtSame
import Derived.Test.YtajkdbpojeaflaaEvtLives
import Derived.Test.YtajkdbpojeaflaaPackMore
import Derived.Test.YtajkdbpojeaflaaHand
namespace Go.Proofs.Ytajkdbpojeaflaa
open Go.RowKit Go.Lib
attribute [local go_sem] setCell_drewN alloc_drewN

/-- Unlike rows have unlike bytes. -/
theorem allE_inj {xs ys : List Evt} (h1 : ∀ x ∈ xs, Evt.Ok x) (h2 : ∀ y ∈ ys, Evt.Ok y) (m1 : xs.all mayE = true) (m2 : ys.all mayE = true) : allE xs = allE ys ↔ xs = ys := by
  refine ⟨fun h => ?_, fun h => by rw [h]⟩
  have r1 := rdF_all xs (allE xs).length (Nat.le_refl _) h1 m1
  have r2 := rdF_all ys (allE xs).length (by rw [h]; exact Nat.le_refl _) h2 m2
  rw [← h, r1] at r2
  exact (Prod.mk.inj r2).1
/-- What stands behind both rows' bytes. -/
structure AP (w0 : World) (ba bb : Option Addr) (xs ys : List Evt) (ao bo : Option Addr) (w : World) : Prop where
  a : At w ba (allE xs)
  b : At w bb (allE ys)
  xs : Evs w ao xs
  ys : Evs w bo ys
  below : Below w0.heap.size w0 w
theorem AP.after {w0 w w' : World} {ba bb ao bo : Option Addr} {xs ys : List Evt} (h : AP w0 ba bb xs ys ao bo w) (hb : Below w.heap.size w w') : AP w0 ba bb xs ys ao bo w' :=
  ⟨h.a.below hb, h.b.below hb, h.xs.below hb, h.ys.below hb, bOn h.below hb⟩
set_option maxRecDepth 100000 in
set_option maxHeartbeats 8000000 in
theorem eventApart_walk (ao : Option Addr) (cap : Nat) (xs : List Evt) (bo : Option Addr) (cap2 : Nat) (ys : List Evt) (w : World) (hx : xs.length ≤ cap ∧ cap ≤ maxLen ∧ Evs w ao xs ∧ ∀ x ∈ xs, Evt.Ok x) (hy : ys.length ≤ cap2 ∧ cap2 ≤ maxLen ∧ Evs w bo ys ∧ ∀ x ∈ ys, Evt.Ok x) :
    Calls Try.prog 6 #[.slice ao xs.length cap, .slice bo ys.length cap2] w fun e w' => e = .returned (.bool true) ∧ Below w.heap.size w w' := by
  obtain ⟨-, -, h1, h2⟩ := hx
  obtain ⟨-, -, h3, h4⟩ := hy
  have EX := hide h1; have EY := hide h3; have O1 := hide h2; have O2 := hide h4
  clear h1 h2 h3 h4
  by_cases hl1 : xs.length ≤ 10
  · by_cases hl2 : ys.length ≤ 10
    · have hi1 : ¬ (10 : Int) < (xs.length : Int) := by omega
      have hi2 : ¬ (10 : Int) < (ys.length : Int) := by omega
      go_enter Try.func6, Try.ntmps6
      go_wp2_with fail
      refine (lives9_any w).mono ?_
      rintro e w1 ⟨rfl, hb⟩
      have B := hide hb
      clear hb
      go_wp2_with fail
      refine (bytes9_any (EX.out.below B.out) O1.out (by omega)).mono ?_
      rintro e w2 ⟨ha, hb⟩
      replace B := hide (bOn B.out hb)
      clear hb
      rcases ha with ⟨m1, va, rfl, hva⟩ | ⟨m1, rfl⟩
      · obtain ⟨ba, ca, rfl, -, -, ka⟩ := hva.cell
        have KA := hide ka
        have NA : Hid (ba = none → ca = 0) := hva.at.2
        have M1 := hide m1
        clear hva ka m1
        go_wp2_with fail
        refine (bytes9_any (EY.out.below B.out) O2.out (by omega)).mono ?_
        rintro e w3 ⟨ha, hb⟩
        replace B := hide (bOn B.out hb)
        replace KA := hide (KA.out.below hb)
        clear hb
        rcases ha with ⟨m2, vb, rfl, hvb⟩ | ⟨m2, rfl⟩
        · obtain ⟨bb, cb, rfl, -, -, kb⟩ := hvb.cell
          have KB := hide kb
          have NB : Hid (bb = none → cb = 0) := hvb.at.2
          have IJ := hide (allE_inj O1.out O2.out M1.out m2)
          have M2 := hide m2
          clear hvb kb m2
          have BY1 := hide (allE_byt O1.out)
          have BY2 := hide (allE_byt O2.out)
          obtain ⟨q, hq⟩ : ∃ q, decide (allE xs = allE ys) = q := ⟨_, rfl⟩
          have HQ := hide hq
          clear hq
          have LA : Hid ((allE xs).length ≤ 1130 ∧ (allE ys).length ≤ 1130) := by constructor <;> rw [allE_length] <;> omega
          go_wp2
          have X : Hid (AP w ba bb xs ys ao bo w3.drew) := ⟨KA.out, KB.out, (EX.out.below B.out).of (Nat.le_refl _) (fun _ _ _ => rfl), (EY.out.below B.out).of (Nat.le_refl _) (fun _ _ _ => rfl), B.out.drew⟩
          clear KA KB B
          refine wp_region_held_drew (S := fun w' => AP w ba bb xs ys ao bo w') (by kernel_rfl) X.out (fun _ => ?_)
          generalize w3.drew = w6 at *
          refine tk0 (v := .slice ba (allE xs).length ca) (by kernel_rfl) (by kernel_rfl) (by kernel_rfl) (fun _ _ _ h => h) X.out (Or.inl ⟨by rfl, fun w hw => by go_simp; try (with_reducible rfl)⟩) ?_
          simp only [Act.put, List.setIfInBounds_toArray, List.set_cons_zero, List.set_cons_succ]
          refine tk1 (v := .string (strOfNums (allE xs))) (by kernel_rfl) (by kernel_rfl) (by kernel_rfl) (fun _ _ _ h => h) X.out (Or.inl ⟨by rfl, fun w hw => by have c := hw.a.str ca; go_simp; try (with_reducible rfl)⟩) ?_
          simp only [Act.put, List.setIfInBounds_toArray, List.set_cons_zero, List.set_cons_succ]
          refine tk2 (v := .slice bb (allE ys).length cb) (by kernel_rfl) (by kernel_rfl) (by kernel_rfl) (fun _ _ _ h => h) X.out (Or.inl ⟨by rfl, fun w hw => by go_simp; try (with_reducible rfl)⟩) ?_
          simp only [Act.put, List.setIfInBounds_toArray, List.set_cons_zero, List.set_cons_succ]
          refine tk3 (v := .string (strOfNums (allE ys))) (by kernel_rfl) (by kernel_rfl) (by kernel_rfl) (fun _ _ _ h => h) X.out (Or.inl ⟨by rfl, fun w hw => by have c := hw.b.str cb; go_simp; try (with_reducible rfl)⟩) ?_
          simp only [Act.put, List.setIfInBounds_toArray, List.set_cons_zero, List.set_cons_succ]
          refine tk4 (v := .bool q) (by kernel_rfl) (by kernel_rfl) (by kernel_rfl) (fun _ _ _ h => h) X.out (Or.inl ⟨by rfl, fun w hw => by rw [← HQ.out]; exact exec_eqStr _ _ _ _ rfl BY1.out BY2.out rfl rfl w⟩) ?_
          simp only [Act.put, List.setIfInBounds_toArray, List.set_cons_zero, List.set_cons_succ]
          refine tk5 (v := .slice ao xs.length cap) (by kernel_rfl) (by kernel_rfl) (by kernel_rfl) (fun _ _ _ h => h) X.out (Or.inl ⟨by rfl, fun w hw => by go_simp; try (with_reducible rfl)⟩) ?_
          simp only [Act.put, List.setIfInBounds_toArray, List.set_cons_zero, List.set_cons_succ]
          refine tk6 (v := .slice bo ys.length cap2) (by kernel_rfl) (by kernel_rfl) (by kernel_rfl) (fun _ _ _ h => h) X.out (Or.inl ⟨by rfl, fun w hw => by go_simp; try (with_reducible rfl)⟩) ?_
          simp only [Act.put, List.setIfInBounds_toArray, List.set_cons_zero, List.set_cons_succ]
          refine wpAnyH_ready (rs := [7]) (by kernel_rfl) (by simp) ?_
          refine rd7 (fun K hK => ?_) AllReadyH.nil
          go_simp
          refine (refs9_any X.out.ys (by omega)).mono ?_
          rintro e w7 ⟨v, rfl, hv⟩
          simp only []
          obtain ⟨ro, rc, rfl, hev, -, -, -, -⟩ := hv.evs
          replace X := hide (X.out.after hv.below)
          have EV := hide hev
          clear hv hev
          refine hK.out _ _ X.out (fun _ => ?_)
          clear hK K
          replace X : Hid (AP w ba bb xs ys ao bo w7 ∧ Evs w7 ro ys) := ⟨X.out, EV.out⟩
          clear EV
          refine hand_more (S' := fun w' => AP w ba bb xs ys ao bo w' ∧ Evs w' ro ys) (fun _ h => h.1) _ _ _ _ ?_
          refine wpAnyH_ready (rs := [8]) (by kernel_rfl) (by simp) ?_
          refine rd8 (fun K hK => ?_) AllReadyH.nil
          go_simp
          refine (same9_any X.out.1.xs X.out.2 O1.out O2.out (by omega) (by omega)).mono ?_
          rintro e w8 ⟨b, rfl, hb, hbw⟩
          simp only []
          have hbq : b = q := by
            rw [← HQ.out, Bool.eq_iff_iff, hb, decide_eq_true_eq]
            exact IJ.out.symm
          replace X : Hid (AP w ba bb xs ys ao bo w8 ∧ Evs w8 ro ys) := ⟨X.out.1.after hbw, X.out.2.below hbw⟩
          clear hb hbw
          subst hbq
          refine hK.out _ _ X.out (fun _ => ?_)
          clear hK K
          refine tk9 (v := .bool false) (by kernel_rfl) (by kernel_rfl) (by kernel_rfl) (fun _ _ _ h => h) X.out (Or.inl ⟨by rfl, fun w hw => by go_simp; try simp⟩) ?_
          simp only [Act.put, List.setIfInBounds_toArray, List.set_cons_zero, List.set_cons_succ]
          refine wpAnyH_done (by kernel_rfl) ?_ _
          have B8 : Hid (w.heap.size ≤ w8.heap.size) := X.out.1.below.size
          go_wp2_with (first
            | (at_builtin; refine wpList_app rfl _ _ rfl (.slice (some ⟨w8.heap.size, 0, none⟩) 0 0) [] (allE xs) _ _ _ rfl rfl rfl (Bs.empty w8) (X.out.1.a.below (bAl (bMe w8))) NA.out (by have := LA.out; simp; omega) (by simp) ?_))
          intro v9 w9 hv9 hg9 hn9
          obtain ⟨bo9, bc9, rfl, -, -, -⟩ := hv9.cell
          have hb89 : Below w8.heap.size w8 w9 := (bAl (bMe w8)).grown hg9 (by simp) (fun k e => by simp [Value.ownBlock] at e; omega)
          replace X : Hid (AP w ba bb xs ys ao bo w9) := X.out.1.after hb89
          have HV := hide hv9
          have HB8 : Hid (w8.heap.size ≤ w9.heap.size ∧ w.heap.size ≤ w8.heap.size) := ⟨hb89.size, B8.out⟩
          clear hv9 hg9 hn9 hb89 B8
          generalize w8.heap.size = g8 at *
          go_wp2_with (first
            | (at_builtin; refine wpList_app rfl _ _ rfl (.slice bo9 (allE xs).length bc9) (allE xs) (allE ys) _ _ _ rfl rfl rfl HV.out X.out.b NB.out (by have := LA.out; omega) HB8.out.1 ?_))
          intro v10 w10 hv10 hg10 hn10
          obtain ⟨bo10, bc10, rfl, -, -, k10⟩ := hv10.cell
          have N10 : Hid (bo10 = none → bc10 = 0) := hv10.at.2
          have K10 := hide k10
          have X2 : Hid (Below w.heap.size w w10) := X.out.below.grown hg10 X.out.below.size (fun k hk => by have := (HV.out.lt k hk).1; have := HB8.out.2; omega)
          clear hv10 hg10 hn10 k10
          rw [← allE_append] at K10
          have hle : (allE xs ++ allE ys).length = (allE (xs ++ ys)).length := by rw [allE_append]
          have HR : Hid (rdE (allE (xs ++ ys)) = (xs ++ ys, 0)) := rdF_all (xs ++ ys) _ (Nat.le_refl _) (fun x hx => by
            rcases List.mem_append.1 hx with hx | hx
            · exact O1.out x hx
            · exact O2.out x hx) (by rw [List.all_append, M1.out, M2.out]; rfl)
          have BYS : Hid (Byt (allE (xs ++ ys)) ∧ (allE (xs ++ ys)).length ≤ 20000) := by
            show _ ∧ _
            rw [allE_append]
            exact ⟨BY1.out.app BY2.out, by have := LA.out; rw [List.length_append]; omega⟩
          have OO : Hid (∀ x ∈ xs ++ ys, Evt.Ok x) := fun x hx => by
            rcases List.mem_append.1 hx with hx | hx
            · exact O1.out x hx
            · exact O2.out x hx
          rw [hle]
          clear hle
          obtain ⟨zs, hzs⟩ : ∃ zs, xs ++ ys = zs := ⟨_, rfl⟩
          have hzl : zs.length ≤ 20 := by rw [← hzs, List.length_append]; omega
          rw [hzs] at HR BYS OO K10
          simp only [hzs]
          have HZ := hide hzs
          clear hzs
          go_wp2_with fail
          refine (read9_any bo10 bc10 (allE zs) K10.out N10.out BYS.out.1 BYS.out.2).mono ?_
          rintro r w11 hrd
          rcases hrd with ⟨_, v, rfl, hv⟩ | ⟨h0, _⟩
          · rw [HR.out] at hv
            simp only at hv
            obtain ⟨so, sc, rfl, hev, -, -, -, -⟩ := hv.evs
            have Y : Hid (Evs w11 so zs) := hev
            replace X2 := hide (bOn X2.out hv.below)
            clear hv hev
            go_wp2_with fail
            refine (refs9_any (EX.out.below X2.out) (by omega)).mono ?_
            rintro e w12 ⟨v1, rfl, hv1⟩
            have E1 := hide hv1
            clear hv1
            go_wp2_with fail
            refine (refs9_any (EY.out.below (bOn X2.out E1.out.below)) (by omega)).mono ?_
            rintro e w13 ⟨v2, rfl, hv2⟩
            replace E1 := hide (E1.out.after hv2.below)
            obtain ⟨ro, rc, rfl, hev, -, hnr, -, -⟩ := hv2.evs
            have E2 := hide hev
            have NR := hide hnr
            clear hv2 hev hnr
            go_wp2_with (at_builtin; refine app_evs _ _ rfl (by rfl) _ xs ys _ _ rfl rfl E1.out E2.out NR.out (by omega) (by omega) ?_)
            intro v3 w14 hv3 _
            rw [HZ.out] at hv3
            obtain ⟨r3, c3, rfl, hev, -, -, -, -⟩ := hv3.evs
            have E3 := hide hev
            have B3 : Hid (Below w11.heap.size w11 w14) := hv3.below
            clear hv3 hev
            go_wp2_with fail
            refine (same9_any (Y.out.below B3.out) E3.out OO.out OO.out (by omega) (by omega)).mono ?_
            rintro e w15 ⟨b, rfl, hb, hbw⟩
            obtain rfl : b = true := hb.2 rfl
            replace B3 := hide (bOn B3.out hbw)
            clear hb hbw
            go_wp2
            go_ret
            exact ⟨rfl, bOn X2.out B3.out⟩
          · exact absurd (by rw [HR.out]) h0
        · go_wp2
          go_ret
          exact ⟨rfl, B.out⟩
      · go_wp2_with fail
        refine (bytes9_any (EY.out.below B.out) O2.out (by omega)).mono ?_
        rintro e w3 ⟨ha, hb⟩
        replace B := hide (bOn B.out hb)
        clear hb
        rcases ha with ⟨m2, vb, rfl, hvb⟩ | ⟨m2, rfl⟩
        · clear hvb m2
          go_wp2
          go_ret
          exact ⟨rfl, B.out⟩
        · go_wp2
          go_ret
          exact ⟨rfl, B.out⟩
    · have hi1 : ¬ (10 : Int) < (xs.length : Int) := by omega
      have hi2 : (10 : Int) < (ys.length : Int) := by omega
      go_enter Try.func6, Try.ntmps6
      go_wp2_with fail
      refine (lives9_any w).mono ?_
      rintro e w1 ⟨rfl, hb⟩
      have B := hide hb
      clear hb
      go_wp2_with fail
      refine (lives9_any w1).mono ?_
      rintro e w2 ⟨rfl, hb⟩
      replace B := hide (bOn B.out hb)
      clear hb
      go_wp2
      go_ret
      exact ⟨rfl, B.out⟩
  · have hi1 : (10 : Int) < (xs.length : Int) := by omega
    go_enter Try.func6, Try.ntmps6
    go_wp2_with fail
    refine (lives9_any w).mono ?_
    rintro e w1 ⟨rfl, hb⟩
    have B := hide hb
    clear hb
    go_wp2_with fail
    refine (lives9_any w1).mono ?_
    rintro e w2 ⟨rfl, hb⟩
    replace B := hide (bOn B.out hb)
    clear hb
    go_wp2
    go_ret
    exact ⟨rfl, B.out⟩
end Go.Proofs.Ytajkdbpojeaflaa
