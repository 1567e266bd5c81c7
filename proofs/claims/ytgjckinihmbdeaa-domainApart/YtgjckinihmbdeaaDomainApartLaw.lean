/- The walk of sponsionlaw06.DomainApart over this translation. -/
import Derived.Test.YtgjckinihmbdeaaApartMath
import Derived.Test.YtgjckinihmbdeaaDomLives
import Derived.Test.YtgjckinihmbdeaaHand
import Derived.OpenShut
namespace Go.Proofs.Ytgjckinihmbdeaa
open Go.RowKit Go.Lib
attribute [local go_sem] setCell_drewN alloc_drewN

theorem few_parts {ps : List Prt} (h : fewP ps = true) (tag : Int) : ps.length ≤ 6 ∧ (dtext tag (lsOf ps)).length ≤ 1000 ∧ ∀ l ∈ lsOf ps, l.length ≤ 1000000 := by
  unfold fewP at h
  have h' := of_decide_eq_true h
  have h2 : ∀ l ∈ lsOf ps, l.length ≤ 100 := fun l hl => by obtain ⟨p, hp, rfl⟩ := List.mem_map.1 hl; exact h'.2 p hp
  have h3 : ∀ ls : List (List Int), (∀ l ∈ ls, l.length ≤ 100) → (ptexts ls).length ≤ 104 * ls.length := by
    intro ls
    induction ls with
    | nil => intro _; simp [ptexts]
    | cons l r ih =>
      intro hh
      have h1 := ih (fun m hm => hh m (by simp [hm]))
      have h2 := hh l (by simp)
      rw [show ptexts (l :: r) = ptext l ++ ptexts r from rfl, List.length_append, ptext_length]
      simp
      omega
  have h4 := h3 (lsOf ps) h2
  have h5 : (lsOf ps).length = ps.length := by simp [lsOf]
  refine ⟨h'.1, ?_, fun l hl => by have := h2 l hl; omega⟩
  unfold dtext
  rw [List.length_append, be_length]
  omega
theorem parts_byt {w : World} {ao : Option Addr} {ps : List Prt} (h : Parts w ao ps) : ∀ l ∈ lsOf ps, Byt l := by
  intro l hl
  obtain ⟨p, hp, rfl⟩ := List.mem_map.1 hl
  rcases h with rfl | ⟨b, off, e, hlt, hc⟩
  · simp at hp
  · obtain ⟨j, hj⟩ := List.getElem?_of_mem hp
    exact (hc j p hj).2.byt
/-- What stands while two parts are held against each other. -/
structure PQ (w0 : World) (b c off oft : Nat) (p q : Prt) (w : World) : Prop where
  cl : w.cell? ⟨b, off, none⟩ = some (.slice p.ao p.l.length p.cap)
  cm : w.cell? ⟨c, oft, none⟩ = some (.slice q.ao q.l.length q.cap)
  pl : At w p.ao p.l
  ql : At w q.ao q.l
  below : Below w0.heap.size w0 w
theorem part_at {w0 w : World} {ao : Option Addr} {ps : List Prt} {k : Nat} {p : Prt} (h : Parts w0 ao ps) (hp : ps[k]? = some p) (hb : Below w0.heap.size w0 w) : ∃ b off, ao = some ⟨b, off, none⟩ ∧ w.cell? ⟨b, off + k, none⟩ = some (.slice p.ao p.l.length p.cap) ∧ At w p.ao p.l ∧ Byt p.l := by
  rcases h with rfl | ⟨b, off, e, hl, hc⟩
  · simp at hp
  · exact ⟨b, off, e, (hb.cell (p := ⟨b, off + k, none⟩) hl).trans (hc k p hp).1, (hc k p hp).2.lies.below hb, (hc k p hp).2.byt⟩
set_option maxRecDepth 100000 in
set_option maxHeartbeats 8000000 in
theorem domainApart_walk (a b : Int) (ao : Option Addr) (cap : Nat) (ps : List Prt) (bo : Option Addr) (bcap : Nat) (qs : List Prt) (w : World) (ha : (Lit.int .u8 a).wf = true) (hb : (Lit.int .u8 b).wf = true)
    (hp : ps.length ≤ cap ∧ cap ≤ maxLen ∧ Parts w ao ps ∧ ∀ q ∈ ps, q.ao = none → q.cap = 0) (hq : qs.length ≤ bcap ∧ bcap ≤ maxLen ∧ Parts w bo qs ∧ ∀ q ∈ qs, q.ao = none → q.cap = 0) :
    Calls Try.prog 3 #[.int .u8 a, .int .u8 b, .slice ao ps.length cap, .slice bo qs.length bcap] w fun e w' => e = .returned (.bool true) ∧ Below w.heap.size w w' := by
  obtain ⟨h1, h2, h3, h4⟩ := hp
  obtain ⟨g1, g2, g3, g4⟩ := hq
  have A1 : 0 ≤ a ∧ a < 256 := by have := Go.bounds_u8 ha; omega
  have B1 : 0 ≤ b ∧ b < 256 := by have := Go.bounds_u8 hb; omega
  have HP := hide h3; have HN := hide h4; have HQ := hide g3; have HM := hide g4
  have hps : Hid (ps.length ≤ maxLen) := Nat.le_trans h1 h2
  have hqs : Hid (qs.length ≤ maxLen) := Nat.le_trans g1 g2
  have HA := hide A1; have HB := hide B1
  clear h1 h2 h3 h4 g1 g2 g3 g4 ha hb
  cases hfp : fewP ps with
  | false =>
    go_enter Try.func3, Try.ntmps3
    go_wp2_with fail
    refine (lives6_any w).mono ?_
    rintro e w1 ⟨rfl, hb1⟩
    have B := hide hb1
    clear hb1
    go_wp2_with fail
    refine (fewP_any (HP.out.below B.out) hps.out).mono ?_
    rintro e w2 ⟨rfl, rfl⟩
    rw [hfp]
    go_wp2_with fail
    refine (lives6_any w2).mono ?_
    rintro e w3 ⟨rfl, hb3⟩
    replace B := hide (bOn B.out hb3)
    clear hb3
    go_wp2
    go_ret
    exact ⟨rfl, B.out⟩
  | true =>
    cases hfq : fewP qs with
    | false =>
      go_enter Try.func3, Try.ntmps3
      go_wp2_with fail
      refine (lives6_any w).mono ?_
      rintro e w1 ⟨rfl, hb1⟩
      have B := hide hb1
      clear hb1
      go_wp2_with fail
      refine (fewP_any (HP.out.below B.out) hps.out).mono ?_
      rintro e w2 ⟨rfl, rfl⟩
      rw [hfp]
      go_wp2_with fail
      refine (fewP_any (HQ.out.below B.out) hqs.out).mono ?_
      rintro e w3 ⟨rfl, rfl⟩
      rw [hfq]
      go_wp2_with fail
      refine (lives6_any w3).mono ?_
      rintro e w4 ⟨rfl, hb3⟩
      replace B := hide (bOn B.out hb3)
      clear hb3
      go_wp2
      go_ret
      exact ⟨rfl, B.out⟩
    | true =>
      obtain ⟨p6, pL, pS⟩ := few_parts hfp a
      obtain ⟨q6, qL, qS⟩ := few_parts hfq b
      have HPL := hide pL; have HQL := hide qL; have HPS := hide pS; have HQS := hide qS
      have hpi : (ps.length : Int) ≤ 6 := by omega
      have hqi : (qs.length : Int) ≤ 6 := by omega
      have HBP : Hid (∀ l ∈ lsOf ps, Byt l) := parts_byt HP.out
      have HBQ : Hid (∀ l ∈ lsOf qs, Byt l) := parts_byt HQ.out
      have hlp : Hid ((lsOf ps).length = ps.length) := by show _ = _; simp [lsOf]
      have hlq : Hid ((lsOf qs).length = qs.length) := by show _ = _; simp [lsOf]
      have H0 := hide (alike_zero a b (lsOf ps) (lsOf qs))
      rw [hlp.out, hlq.out] at H0
      clear pL qL pS qS A1 B1
      obtain ⟨e0, hE⟩ : ∃ e0, (a == b) = e0 := ⟨_, rfl⟩
      obtain ⟨e1, hE1⟩ : ∃ e1, ((ps.length : Int) == (qs.length : Int)) = e1 := ⟨_, rfl⟩
      have HS0 : Hid ((e0 && e1) = alike a b (lsOf ps) (lsOf qs) 0) := by
        show _ = _
        rw [H0.out, ← hE, ← hE1, Bool.eq_iff_iff]
        simp
        intro _
        omega
      clear H0
      cases e0
      all_goals
        go_enter Try.func3, Try.ntmps3
        go_wp2_with fail
        refine (lives6_any w).mono ?_
        rintro e w1 ⟨rfl, hb1⟩
        have B := hide hb1
        clear hb1
        go_wp2_with fail
        refine (fewP_any (HP.out.below B.out) hps.out).mono ?_
        rintro e w2 ⟨rfl, rfl⟩
        rw [hfp]
        go_wp2_with fail
        refine (fewP_any (HQ.out.below B.out) hqs.out).mono ?_
        rintro e w3 ⟨rfl, rfl⟩
        rw [hfq]
        clear hfp hfq
        go_wp2
        clear hE hE1
        go_loopg [9, 10] ps.length (fun gk t9 t10 wr => ∃ k : Nat, gk + k = ps.length ∧ t10 = .int .i64 k ∧ t9 = .bool (alike a b (lsOf ps) (lsOf qs) k) ∧ Below w.heap.size w wr)
        case atStart => exact ⟨0, by omega, rfl, by rw [← HS0.out]; rfl, B.out⟩
        case round =>
          clear B HS0
          obtain ⟨k, hk, rfl, rfl, hb⟩ := hrel
          have B := hide hb; have HK := hide hk
          clear hb hk
          cases hs : alike a b (lsOf ps) (lsOf qs) k with
          | false =>
            have HNE := hide (alike_not hs)
            clear hs
            obtain ⟨L, hL⟩ : ∃ L, dtext a (lsOf ps) = L := ⟨_, rfl⟩
            obtain ⟨M, hM⟩ : ∃ M, dtext b (lsOf qs) = M := ⟨_, rfl⟩
            have HBL : Hid (Byt L) := by rw [← hL]; exact dtext_byt HBP.out
            have HBM : Hid (Byt M) := by rw [← hM]; exact dtext_byt HBQ.out
            have hLM : ¬ L = M := fun h => HNE.out (dtext_inj HA.out HB.out HPS.out HQS.out (by rw [hL, hM]; exact h))
            obtain ⟨T1, hT1⟩ : ∃ T, strOfNums L = T := ⟨_, rfl⟩
            obtain ⟨T2, hT2⟩ : ∃ T, strOfNums M = T := ⟨_, rfl⟩
            have hne : ¬ T1.toList = T2.toList := fun h => hLM (str_inj HBL.out HBM.out (by rw [hT1, hT2]; exact h))
            have hne2 : (T1.toList == T2.toList) = false := by simpa using hne
            have HL := hide hL; have HM2 := hide hM; have HT1 := hide hT1; have HT2 := hide hT2
            clear hL hM hLM hT1 hT2
            go_wp2_with fail
            have X : Hid (Below w.heap.size w wr.drew) := B.out.drew
            refine wp_region_held_drew (S := fun w' => Below w.heap.size w w') (by kernel_rfl) X.out (fun _ => ?_)
            refine tk0 (v := .int .u8 a) (by kernel_rfl) (by kernel_rfl) (by kernel_rfl) (fun _ _ _ h => h) X.out (Or.inl ⟨by rfl, fun w hw => by go_simp; try (with_reducible rfl)⟩) ?_
            simp only [Act.put, List.setIfInBounds_toArray, List.set_cons_zero, List.set_cons_succ]
            refine tk1 (v := .slice ao ps.length cap) (by kernel_rfl) (by kernel_rfl) (by kernel_rfl) (fun _ _ _ h => h) X.out (Or.inl ⟨by rfl, fun w hw => by go_simp; try (with_reducible rfl)⟩) ?_
            simp only [Act.put, List.setIfInBounds_toArray, List.set_cons_zero, List.set_cons_succ]
            refine tk4 (v := .int .u8 b) (by kernel_rfl) (by kernel_rfl) (by kernel_rfl) (fun _ _ _ h => h) X.out (Or.inl ⟨by rfl, fun w hw => by go_simp; try (with_reducible rfl)⟩) ?_
            simp only [Act.put, List.setIfInBounds_toArray, List.set_cons_zero, List.set_cons_succ]
            refine tk5 (v := .slice bo qs.length bcap) (by kernel_rfl) (by kernel_rfl) (by kernel_rfl) (fun _ _ _ h => h) X.out (Or.inl ⟨by rfl, fun w hw => by go_simp; try (with_reducible rfl)⟩) ?_
            simp only [Act.put, List.setIfInBounds_toArray, List.set_cons_zero, List.set_cons_succ]
            refine tk9 (v := .bool false) (by kernel_rfl) (by kernel_rfl) (by kernel_rfl) (fun _ _ _ h => h) X.out (Or.inl ⟨by rfl, fun w hw => by go_simp; try (with_reducible rfl)⟩) ?_
            simp only [Act.put, List.setIfInBounds_toArray, List.set_cons_zero, List.set_cons_succ]
            refine wpAnyH_ready (rs := [2]) (by kernel_rfl) (by simp) ?_
            refine rd2 (fun K hK => ?_) AllReadyH.nil
            go_simp
            refine (text_any a HA.out.1 HA.out.2 ao cap ps (HP.out.below X.out) HN.out (by have := HPL.out; omega) (by omega)).mono ?_
            rintro e w5 ⟨v, rfl, hv, hb⟩
            simp only []
            rw [HL.out] at hv
            obtain ⟨x1, c1, rfl, -, -, k3⟩ := hv.cell
            replace X : Hid (Below w.heap.size w w5 ∧ At w5 x1 L) := ⟨bOn X.out hb, k3⟩
            clear hv hb k3
            refine hK.out _ _ X.out.1 (fun _ => ?_)
            clear hK K
            refine hand_more (S' := fun w' => Below w.heap.size w w' ∧ At w' x1 L) (fun _ h => h.1) _ _ _ _ ?_
            refine tk3 (v := .string T1) (by kernel_rfl) (by kernel_rfl) (by kernel_rfl) (fun _ _ _ h => h) X.out (Or.inl ⟨by rfl, fun w hw => by have c := hw.2.str c1; simp only [HT1.out] at c; go_simp; try (with_reducible rfl)⟩) ?_
            simp only [Act.put, List.setIfInBounds_toArray, List.set_cons_zero, List.set_cons_succ]
            refine wpAnyH_ready (rs := [6]) (by kernel_rfl) (by simp) ?_
            refine rd6 (fun K hK => ?_) AllReadyH.nil
            go_simp
            refine (text_any b HB.out.1 HB.out.2 bo bcap qs (HQ.out.below X.out.1) HM.out (by have := HQL.out; omega) (by omega)).mono ?_
            rintro e w6 ⟨v, rfl, hv, hb⟩
            simp only []
            rw [HM2.out] at hv
            obtain ⟨x2, c2, rfl, -, -, k3⟩ := hv.cell
            replace X : Hid (Below w.heap.size w w6 ∧ At w6 x1 L) := ⟨bOn X.out.1 hb, X.out.2.below hb⟩
            have AM := hide k3
            clear hv hb k3
            refine hK.out _ _ X.out (fun _ => ?_)
            clear hK K
            replace X : Hid ((Below w.heap.size w w6 ∧ At w6 x1 L) ∧ At w6 x2 M) := ⟨X.out, AM.out⟩
            refine hand_more (S' := fun w' => (Below w.heap.size w w' ∧ At w' x1 L) ∧ At w' x2 M) (fun _ h => h.1) _ _ _ _ ?_
            refine tk7 (v := .string T2) (by kernel_rfl) (by kernel_rfl) (by kernel_rfl) (fun _ _ _ h => h) X.out (Or.inl ⟨by rfl, fun w hw => by have c := hw.2.str c2; simp only [HT2.out] at c; go_simp; try (with_reducible rfl)⟩) ?_
            simp only [Act.put, List.setIfInBounds_toArray, List.set_cons_zero, List.set_cons_succ]
            refine tk8 (v := .bool false) (by kernel_rfl) (by kernel_rfl) (by kernel_rfl) (fun _ _ _ h => h) X.out (Or.inl ⟨by rfl, fun w hw => by go_simp; try (with_reducible rfl)⟩) ?_
            simp only [Act.put, List.setIfInBounds_toArray, List.set_cons_zero, List.set_cons_succ]
            refine tk10 (v := .bool true) (by kernel_rfl) (by kernel_rfl) (by kernel_rfl) (fun _ _ _ h => h) X.out (Or.inl ⟨by rfl, fun w hw => by go_simp; try (with_reducible rfl)⟩) ?_
            simp only [Act.put, List.setIfInBounds_toArray, List.set_cons_zero, List.set_cons_succ]
            refine tk11 (v := .bool true) (by kernel_rfl) (by kernel_rfl) (by kernel_rfl) (fun _ _ _ h => h) X.out (Or.inl ⟨by rfl, fun w hw => by go_simp; try (with_reducible rfl)⟩) ?_
            simp only [Act.put, List.setIfInBounds_toArray, List.set_cons_zero, List.set_cons_succ]
            refine wpAnyH_done (by kernel_rfl) ?_ _
            go_wp2
            go_ret
            exact ⟨rfl, X.out.1.1⟩
          | true =>
            by_cases hlt : k < ps.length
            · have hki : (k : Int) < (ps.length : Int) := by omega
              have hki2 : ¬ (k : Int) < 0 := by omega
              have hkq : k < qs.length := by
                have h := hs
                unfold alike at h
                have h2 := (of_decide_eq_true h).2.1
                rw [hlp.out, hlq.out] at h2
                omega
              have hkqi : (k : Int) < (qs.length : Int) := by omega
              obtain ⟨p, hp⟩ : ∃ p, ps[k]? = some p := ⟨ps[k], by simp [hlt]⟩
              obtain ⟨q, hq⟩ : ∃ q, qs[k]? = some q := ⟨qs[k], by simp [hkq]⟩
              have HNX := hide (alike_next hs (show (lsOf ps)[k]? = some p.l by simp [lsOf, hp]) (show (lsOf qs)[k]? = some q.l by simp [lsOf, hq]))
              have hbd : Below w.heap.size w wr.drew := B.out.drew
              obtain ⟨b0, off, rfl, c1, c2, c3⟩ := part_at HP.out hp hbd
              obtain ⟨d0, oft, rfl, d1, d2, d3⟩ := part_at HQ.out hq hbd
              have X : Hid (PQ w b0 d0 (off + k) (oft + k) p q wr.drew) := ⟨c1, d1, c2, d2, hbd⟩
              have HSE : Hid (((strOfNums p.l).toList == (strOfNums q.l).toList) = decide (p.l = q.l)) := by
                show _ = _
                rw [Bool.eq_iff_iff]
                simp only [beq_iff_eq, decide_eq_true_eq]
                exact ⟨fun h => str_inj c3 d3 h, fun h => by rw [h]⟩
              clear hs c1 c2 c3 d1 d2 d3 hp hq hbd
              obtain ⟨pa, pc, pl⟩ := p
              obtain ⟨qa, qc, ql⟩ := q
              simp only [] at HNX HSE
              obtain ⟨s1, hs1⟩ : ∃ s1, decide (pl = ql) = s1 := ⟨_, rfl⟩
              rw [hs1] at HSE HNX
              clear hs1
              obtain ⟨T1, hT1⟩ : ∃ T, strOfNums pl = T := ⟨_, rfl⟩
              obtain ⟨T2, hT2⟩ : ∃ T, strOfNums ql = T := ⟨_, rfl⟩
              rw [hT1, hT2] at HSE
              have HT1 := hide hT1; have HT2 := hide hT2; have hseq := HSE.out
              clear hT1 hT2 HSE
              go_wp2
              refine wp_region_held_drew (S := PQ w b0 d0 (off + k) (oft + k) ⟨pa, pc, pl⟩ ⟨qa, qc, ql⟩) (by kernel_rfl) X.out (fun _ => ?_)
              refine tk0 (v := .slice (some ⟨b0, off, none⟩) ps.length cap) (by kernel_rfl) (by kernel_rfl) (by kernel_rfl) (fun _ _ _ h => h) X.out (Or.inl ⟨by rfl, fun w hw => by go_simp; try (with_reducible rfl)⟩) ?_
              simp only [Act.put, List.setIfInBounds_toArray, List.set_cons_zero, List.set_cons_succ]
              refine tk1 (v := .int .i64 (k : Int)) (by kernel_rfl) (by kernel_rfl) (by kernel_rfl) (fun _ _ _ h => h) X.out (Or.inl ⟨by rfl, fun w hw => by go_simp; try (with_reducible rfl)⟩) ?_
              simp only [Act.put, List.setIfInBounds_toArray, List.set_cons_zero, List.set_cons_succ]
              refine tk2 (v := .pointer (some ⟨b0, off + k, none⟩)) (by kernel_rfl) (by kernel_rfl) (by kernel_rfl) (fun _ _ _ h => h) X.out (Or.inl ⟨by rfl, fun w hw => by go_simp; try (with_reducible rfl)⟩) ?_
              simp only [Act.put, List.setIfInBounds_toArray, List.set_cons_zero, List.set_cons_succ]
              refine tk3 (v := .slice pa pl.length pc) (by kernel_rfl) (by kernel_rfl) (by kernel_rfl) (fun _ _ _ h => h) X.out (Or.inl ⟨by rfl, fun w hw => by have c := hw.cl; simp only [] at c; go_simp; try (with_reducible rfl)⟩) ?_
              simp only [Act.put, List.setIfInBounds_toArray, List.set_cons_zero, List.set_cons_succ]
              refine tk4 (v := .string T1) (by kernel_rfl) (by kernel_rfl) (by kernel_rfl) (fun _ _ _ h => h) X.out (Or.inl ⟨by rfl, fun w hw => by have c := hw.pl.str pc; simp only [HT1.out] at c; go_simp; try (with_reducible rfl)⟩) ?_
              simp only [Act.put, List.setIfInBounds_toArray, List.set_cons_zero, List.set_cons_succ]
              refine tk5 (v := .slice (some ⟨d0, oft, none⟩) qs.length bcap) (by kernel_rfl) (by kernel_rfl) (by kernel_rfl) (fun _ _ _ h => h) X.out (Or.inl ⟨by rfl, fun w hw => by go_simp; try (with_reducible rfl)⟩) ?_
              simp only [Act.put, List.setIfInBounds_toArray, List.set_cons_zero, List.set_cons_succ]
              refine tk6 (v := .int .i64 (k : Int)) (by kernel_rfl) (by kernel_rfl) (by kernel_rfl) (fun _ _ _ h => h) X.out (Or.inl ⟨by rfl, fun w hw => by go_simp; try (with_reducible rfl)⟩) ?_
              simp only [Act.put, List.setIfInBounds_toArray, List.set_cons_zero, List.set_cons_succ]
              refine tk7 (v := .pointer (some ⟨d0, oft + k, none⟩)) (by kernel_rfl) (by kernel_rfl) (by kernel_rfl) (fun _ _ _ h => h) X.out (Or.inl ⟨by rfl, fun w hw => by go_simp; try (with_reducible rfl)⟩) ?_
              simp only [Act.put, List.setIfInBounds_toArray, List.set_cons_zero, List.set_cons_succ]
              refine tk8 (v := .slice qa ql.length qc) (by kernel_rfl) (by kernel_rfl) (by kernel_rfl) (fun _ _ _ h => h) X.out (Or.inl ⟨by rfl, fun w hw => by have c := hw.cm; simp only [] at c; go_simp; try (with_reducible rfl)⟩) ?_
              simp only [Act.put, List.setIfInBounds_toArray, List.set_cons_zero, List.set_cons_succ]
              refine tk9 (v := .string T2) (by kernel_rfl) (by kernel_rfl) (by kernel_rfl) (fun _ _ _ h => h) X.out (Or.inl ⟨by rfl, fun w hw => by have c := hw.ql.str qc; simp only [HT2.out] at c; go_simp; try (with_reducible rfl)⟩) ?_
              simp only [Act.put, List.setIfInBounds_toArray, List.set_cons_zero, List.set_cons_succ]
              refine tk10 (v := .bool s1) (by kernel_rfl) (by kernel_rfl) (by kernel_rfl) (fun _ _ _ h => h) X.out (Or.inl ⟨by rfl, fun w hw => by go_simp; try (with_reducible rfl)⟩) ?_
              simp only [Act.put, List.setIfInBounds_toArray, List.set_cons_zero, List.set_cons_succ]
              refine tk11 (v := .bool s1) (by kernel_rfl) (by kernel_rfl) (by kernel_rfl) (fun _ _ _ h => h) X.out (Or.inl ⟨by rfl, fun w hw => by go_simp; try (with_reducible rfl)⟩) ?_
              simp only [Act.put, List.setIfInBounds_toArray, List.set_cons_zero, List.set_cons_succ]
              refine wpAnyH_done (by kernel_rfl) ?_ _
              go_wp2
              go_roundg (ps.length - k - 1)
              case measure => have := HK.out; omega
              case rel => exact ⟨k + 1, by omega, by go_num, by rw [HNX.out], X.out.below⟩
            · obtain rfl : k = ps.length := by have := HK.out; omega
              have HSM : Hid (a = b ∧ lsOf ps = lsOf qs) := by
                rw [show ps.length = (lsOf ps).length from hlp.out.symm, alike_all] at hs
                exact hide (of_decide_eq_true hs)
              clear hs
              obtain ⟨L, hL⟩ : ∃ L, dtext a (lsOf ps) = L := ⟨_, rfl⟩
              obtain ⟨M, hM⟩ : ∃ M, dtext b (lsOf qs) = M := ⟨_, rfl⟩
              have HBL : Hid (Byt L) := by rw [← hL]; exact dtext_byt HBP.out
              have HBM : Hid (Byt M) := by rw [← hM]; exact dtext_byt HBQ.out
              have hLM : L = M := by rw [← hL, ← hM, HSM.out.1, HSM.out.2]
              obtain ⟨T1, hT1⟩ : ∃ T, strOfNums L = T := ⟨_, rfl⟩
              have hT2 : strOfNums M = T1 := by rw [← hLM]; exact hT1
              have HL := hide hL; have HM2 := hide hM; have HT1 := hide hT1; have HT2 := hide hT2
              clear hL hM hLM hT1 hT2
              go_wp2_with fail
              have X : Hid (Below w.heap.size w wr.drew) := B.out.drew
              refine wp_region_held_drew (S := fun w' => Below w.heap.size w w') (by kernel_rfl) X.out (fun _ => ?_)
              refine tk0 (v := .int .u8 a) (by kernel_rfl) (by kernel_rfl) (by kernel_rfl) (fun _ _ _ h => h) X.out (Or.inl ⟨by rfl, fun w hw => by go_simp; try (with_reducible rfl)⟩) ?_
              simp only [Act.put, List.setIfInBounds_toArray, List.set_cons_zero, List.set_cons_succ]
              refine tk1 (v := .slice ao ps.length cap) (by kernel_rfl) (by kernel_rfl) (by kernel_rfl) (fun _ _ _ h => h) X.out (Or.inl ⟨by rfl, fun w hw => by go_simp; try (with_reducible rfl)⟩) ?_
              simp only [Act.put, List.setIfInBounds_toArray, List.set_cons_zero, List.set_cons_succ]
              refine tk4 (v := .int .u8 b) (by kernel_rfl) (by kernel_rfl) (by kernel_rfl) (fun _ _ _ h => h) X.out (Or.inl ⟨by rfl, fun w hw => by go_simp; try (with_reducible rfl)⟩) ?_
              simp only [Act.put, List.setIfInBounds_toArray, List.set_cons_zero, List.set_cons_succ]
              refine tk5 (v := .slice bo qs.length bcap) (by kernel_rfl) (by kernel_rfl) (by kernel_rfl) (fun _ _ _ h => h) X.out (Or.inl ⟨by rfl, fun w hw => by go_simp; try (with_reducible rfl)⟩) ?_
              simp only [Act.put, List.setIfInBounds_toArray, List.set_cons_zero, List.set_cons_succ]
              refine tk9 (v := .bool true) (by kernel_rfl) (by kernel_rfl) (by kernel_rfl) (fun _ _ _ h => h) X.out (Or.inl ⟨by rfl, fun w hw => by go_simp; try (with_reducible rfl)⟩) ?_
              simp only [Act.put, List.setIfInBounds_toArray, List.set_cons_zero, List.set_cons_succ]
              refine wpAnyH_ready (rs := [2]) (by kernel_rfl) (by simp) ?_
              refine rd2 (fun K hK => ?_) AllReadyH.nil
              go_simp
              refine (text_any a HA.out.1 HA.out.2 ao cap ps (HP.out.below X.out) HN.out (by have := HPL.out; omega) (by omega)).mono ?_
              rintro e w5 ⟨v, rfl, hv, hb⟩
              simp only []
              rw [HL.out] at hv
              obtain ⟨x1, c1, rfl, -, -, k3⟩ := hv.cell
              replace X : Hid (Below w.heap.size w w5 ∧ At w5 x1 L) := ⟨bOn X.out hb, k3⟩
              clear hv hb k3
              refine hK.out _ _ X.out.1 (fun _ => ?_)
              clear hK K
              refine hand_more (S' := fun w' => Below w.heap.size w w' ∧ At w' x1 L) (fun _ h => h.1) _ _ _ _ ?_
              refine tk3 (v := .string T1) (by kernel_rfl) (by kernel_rfl) (by kernel_rfl) (fun _ _ _ h => h) X.out (Or.inl ⟨by rfl, fun w hw => by have c := hw.2.str c1; simp only [HT1.out] at c; go_simp; try (with_reducible rfl)⟩) ?_
              simp only [Act.put, List.setIfInBounds_toArray, List.set_cons_zero, List.set_cons_succ]
              refine wpAnyH_ready (rs := [6]) (by kernel_rfl) (by simp) ?_
              refine rd6 (fun K hK => ?_) AllReadyH.nil
              go_simp
              refine (text_any b HB.out.1 HB.out.2 bo bcap qs (HQ.out.below X.out.1) HM.out (by have := HQL.out; omega) (by omega)).mono ?_
              rintro e w6 ⟨v, rfl, hv, hb⟩
              simp only []
              rw [HM2.out] at hv
              obtain ⟨x2, c2, rfl, -, -, k3⟩ := hv.cell
              replace X : Hid (Below w.heap.size w w6 ∧ At w6 x1 L) := ⟨bOn X.out.1 hb, X.out.2.below hb⟩
              have AM := hide k3
              clear hv hb k3
              refine hK.out _ _ X.out (fun _ => ?_)
              clear hK K
              replace X : Hid ((Below w.heap.size w w6 ∧ At w6 x1 L) ∧ At w6 x2 M) := ⟨X.out, AM.out⟩
              refine hand_more (S' := fun w' => (Below w.heap.size w w' ∧ At w' x1 L) ∧ At w' x2 M) (fun _ h => h.1) _ _ _ _ ?_
              refine tk7 (v := .string T1) (by kernel_rfl) (by kernel_rfl) (by kernel_rfl) (fun _ _ _ h => h) X.out (Or.inl ⟨by rfl, fun w hw => by have c := hw.2.str c2; simp only [HT2.out] at c; go_simp; try (with_reducible rfl)⟩) ?_
              simp only [Act.put, List.setIfInBounds_toArray, List.set_cons_zero, List.set_cons_succ]
              refine tk8 (v := .bool true) (by kernel_rfl) (by kernel_rfl) (by kernel_rfl) (fun _ _ _ h => h) X.out (Or.inl ⟨by rfl, fun w hw => by go_simp; try (with_reducible rfl)⟩) ?_
              simp only [Act.put, List.setIfInBounds_toArray, List.set_cons_zero, List.set_cons_succ]
              refine tk10 (v := .bool true) (by kernel_rfl) (by kernel_rfl) (by kernel_rfl) (fun _ _ _ h => h) X.out (Or.inl ⟨by rfl, fun w hw => by go_simp; try (with_reducible rfl)⟩) ?_
              simp only [Act.put, List.setIfInBounds_toArray, List.set_cons_zero, List.set_cons_succ]
              refine tk11 (v := .bool true) (by kernel_rfl) (by kernel_rfl) (by kernel_rfl) (fun _ _ _ h => h) X.out (Or.inl ⟨by rfl, fun w hw => by go_simp; try (with_reducible rfl)⟩) ?_
              simp only [Act.put, List.setIfInBounds_toArray, List.set_cons_zero, List.set_cons_succ]
              refine wpAnyH_done (by kernel_rfl) ?_ _
              go_wp2
              go_ret
              exact ⟨rfl, X.out.1.1⟩
end Go.Proofs.Ytgjckinihmbdeaa
