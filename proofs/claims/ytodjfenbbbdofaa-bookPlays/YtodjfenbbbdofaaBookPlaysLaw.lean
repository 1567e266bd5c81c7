/- BookPlays: behind whatever is minted, burned, moved and taken back, each answer, each balance and each supply is the document's (gen-bookplays.py). -/
import Derived.Test.YtodjfenbbbdofaaBkSame
import Derived.Test.YtodjfenbbbdofaaClassy
import Derived.Test.YtodjfenbbbdofaaFrameBk
import Derived.Test.YtodjfenbbbdofaaClassy
namespace Go.Proofs.Ytodjfenbbbdofaa
set_option linter.unusedSimpArgs false
set_option linter.unusedVariables false
open Go.RowKit Go.Lib
attribute [local go_sem] setCell_drewN alloc_drewN eqInt

/-- What the law holds behind its acts: the book with its history, the table, and the table that was kept. -/
structure PS (W w : World) (bj bb gw gk n m : Nat) (h : Nat → Kvs) : Prop where
  bs : BS W w bj bb n h (fun k => k = gw ∨ k = gk)
  row : URow w gw 288 (tl (tb (h n)))
  kept : URow w gk 288 (tl (tb (h m)))
  le : m ≤ n
  far : (gw ≠ gk ∧ gw ≠ bb ∧ gk ≠ bb) ∧ W.heap.size ≤ gw ∧ W.heap.size ≤ gk
theorem PS.below {W w w' : World} {bj bb gw gk n m : Nat} {h : Nat → Kvs} (s : PS W w bj bb gw gk n m h) (hb : Below w.heap.size w w') : PS W w' bj bb gw gk n m h :=
  ⟨s.bs.below hb, s.row.after hb rfl, s.kept.after hb rfl, s.le, s.far⟩
theorem PS.lt {W w : World} {bj bb gw gk n m : Nat} {h : Nat → Kvs} (s : PS W w bj bb gw gk n m h) : bb < w.heap.size := by
  obtain ⟨S, q, _⟩ := s.bs.ex; exact q.lt
theorem PS.mark {W w : World} {bj bb gw gk n m : Nat} {h : Nat → Kvs} (s : PS W w bj bb gw gk n m h) : PS W (w.setCells gk 0 (rowU 288 (tl (tb (h n))))) bj bb gw gk n n h :=
  ⟨s.bs.setO (.inr rfl) s.far.1.2.2 s.far.2.2 _, s.row.setO s.far.1.1 _, s.kept.stored _, Nat.le_refl _, s.far⟩
/-- The journal went back: the table that was kept is the book's. -/
theorem PS.back {W w w' : World} {bj bb gw gk n m : Nat} {h : Nat → Kvs} (s : PS W w bj bb gw gk n m h) (b : BS W w' bj bb m h (fun k => k = gw ∨ k = gk)) (k : Kp (fun k => k = gw ∨ k = gk) w w') :
    (URow w' gk 288 (tl (tb (h m))) ∧ URow w' gw 288 (tl (tb (h n)))) ∧ PS W (w'.setCells gw 0 (rowU 288 (tl (tb (h m))))) bj bb gw gk m m h := by
  have r := s.row.kp k (.inl rfl)
  have q := s.kept.kp k (.inr rfl)
  exact ⟨⟨q, r⟩, b.setO (.inl rfl) s.far.1.2.1 s.far.2.1 _, r.stored _, q.setO (fun e => s.far.1.1 e.symm) _, Nat.le_refl _, s.far⟩
/-- An act: the table is stored anew. -/
theorem PS.act {W w w' : World} {bj bb gw gk n m n' : Nat} {h h' : Nat → Kvs} (s : PS W w bj bb gw gk n m h) (b : BS W w' bj bb n' h' (fun k => k = gw ∨ k = gk)) (k : Kp (fun k => k = gw ∨ k = gk) w w') (l : n ≤ n') (e : ∀ i, i ≤ n → h' i = h i) :
    URow w' gw 288 (tl (tb (h n))) ∧ PS W (w'.setCells gw 0 (rowU 288 (tl (tb (h' n'))))) bj bb gw gk n' m h' := by
  have r := s.row.kp k (.inl rfl)
  have q := s.kept.kp k (.inr rfl)
  refine ⟨r, b.setO (.inl rfl) s.far.1.2.1 s.far.2.1 _, r.stored _, ?_, Nat.le_trans s.le l, s.far⟩
  rw [e m s.le]
  exact q.setO (fun e => s.far.1.1 e.symm) _
theorem Ac.Ok.mod {x : Ac} (h : x.Ok) : ({ x with k := x.k % 5 } : Ac).Ok := ⟨⟨by show 0 ≤ x.k % 5; omega, by show x.k % 5 < 256; omega⟩, h.t, h.f, h.o, h.n⟩
set_option maxRecDepth 100000 in
set_option maxHeartbeats 4000000 in
theorem bookPlays_walk (ao : Option Addr) (cap : Nat) (xs : List Ac) (t p : Int) (W : World) (bs : xs.length ≤ cap ∧ cap ≤ maxLen ∧ Acs W ao xs ∧ ∀ x ∈ xs, Ac.Ok x) (wt : (Lit.int .u8 t).wf = true) (wp : (Lit.int .u8 p).wf = true) :
    Calls Try.prog 3 #[.slice ao xs.length cap, .int .u8 t, .int .u8 p] W fun e w' => e = .returned (.bool true) ∧ Below W.heap.size W w' := by
  obtain ⟨hcap, hmax, hacs, hok⟩ := bs
  have HACS := hide hacs
  have HOK := hide hok
  have hbt : 0 ≤ t ∧ t < 256 := by have := bounds_u8 wt; omega
  have hbp : 0 ≤ p ∧ p < 256 := by have := bounds_u8 wp; omega
  clear hacs hok wt wp
  by_cases hlen : 40 < xs.length
  · have hll : (40 : Int) < (xs.length : Int) := by omega
    go_enter Try.func3, Try.ntmps3
    go_wp2_with fail
    refine (lives13_any W).mono ?_
    rintro e w1 ⟨rfl, hb1⟩
    have HB1 := hide hb1
    clear hb1
    go_wp2_with fail
    refine (lives13_any w1).mono ?_
    rintro e w2 ⟨rfl, hb2⟩
    have HB2 := hide (bOn HB1.out hb2)
    clear hb2
    go_wp2
    go_ret
    exact ⟨rfl, HB2.out⟩
  · have hll : (xs.length : Int) ≤ 40 := by omega
    have hln : xs.length ≤ 40 := by omega
    go_enter Try.func3, Try.ntmps3
    go_wp2_with fail
    refine (lives13_any W).mono ?_
    rintro e w1 ⟨rfl, hb1⟩
    have C := hide (new_l (w := w1) hb1 (Fr := fun _ => False) (fun k h => h.elim))
    clear hb1
    go_wp2_with fail
    refine C.out.mono ?_
    clear C
    rintro e w2 ⟨bb, rfl, hbb, b, _⟩
    have hzp := fun w => zeroTb w
    obtain ⟨w3, hw3⟩ : ∃ w3, (w2.alloc (.cells (rowU 288 (tl tz)).toArray 36)).alloc (.cells (rowU 288 (tl tz)).toArray 36) = w3 := ⟨_, rfl⟩
    obtain ⟨gw, hgw⟩ : ∃ gw, w2.heap.size = gw := ⟨_, rfl⟩
    have H0 : Hid (PS W w3 w1.heap.size bb gw (gw + 1) 0 0 (fun _ => [])) := by
      have lb : bb < w2.heap.size := by obtain ⟨S, q, _⟩ := b.ex; exact q.lt
      have hle : W.heap.size ≤ w2.heap.size := b.be.size
      have b3 : BS W w3 w1.heap.size bb 0 (fun _ => []) (fun k => False ∨ (k = gw ∨ k = gw + 1)) := b.addP (by rw [← hw3]; exact bAl (bAl (bMe w2))) (fun k hk => by rw [← hw3, ← hgw] at *; rcases hk with rfl | rfl <;> (simp; try omega))
      refine ⟨b3.sub fun k hk => .inr hk, ?_, ?_, Nat.le_refl _, ⟨by omega, by omega, by omega⟩, by omega, by omega⟩
      · rw [tb_nil, ← hw3]; exact (URow.box w2 288 (tl tz) _ hgw).past _
      · rw [tb_nil, ← hw3]; exact URow.box _ 288 (tl tz) _ (by simp [hgw])
    clear b
    go_wp2
    try rw [hw3]
    try rw [hgw]
    clear hw3 hgw hzp hbb
    go_loopw [30, 11] (fun q mk wr => ∃ (i m n : Nat) (h : Nat → Kvs), i ≤ xs.length ∧ q = .int .i64 i ∧ mk = .int .i64 m ∧ n ≤ 2 * i ∧ PS W wr w1.heap.size bb gw (gw + 1) n m h) (fun q _ _ => xs.length - (intOf q).toNat)
    case atStart => exact ⟨0, 0, 0, _, by omega, rfl, rfl, by omega, H0.out⟩
    case round =>
      obtain ⟨i, m, n, h, hi, rfl, rfl, hn, hps⟩ := hrel
      have P := hide hps
      clear H0
      by_cases hlt : i < xs.length
      · have hlt' : (i : Int) < (xs.length : Int) := by omega
        obtain ⟨x, hx⟩ : ∃ x, xs[i]? = some x := ⟨xs[i], List.getElem?_eq_getElem hlt⟩
        have hxo := HOK.out x (List.mem_of_getElem? hx)
        obtain ⟨b, off, rfl, a0, a1, a2, a3, a4, a5, a6, a7⟩ := HACS.out.got hps.bs.be hx
        clear hx hps
        obtain ⟨ga, hga⟩ : ∃ ga, wr.heap.size = ga := ⟨_, rfl⟩
        obtain ⟨w4, hw4⟩ : ∃ w4, wr.alloc (.cells #[.int .u8 x.k, .int .u8 x.t, .int .u8 x.f, .int .u8 x.o, .int .u64 (lm x.n 0), .int .u64 (lm x.n 1), .int .u64 (lm x.n 2), .int .u64 (lm x.n 3)] 38) = w4 := ⟨_, rfl⟩
        have P4 := hide (P.out.below (bAl (o := .cells #[.int .u8 x.k, .int .u8 x.t, .int .u8 x.f, .int .u8 x.o, .int .u64 (lm x.n 0), .int .u64 (lm x.n 1), .int .u64 (lm x.n 2), .int .u64 (lm x.n 3)] 38) (bMe wr)))
        have V4 : Hid (VRow w4 ga (acV x)) := by rw [← hw4]; exact hide (VRow.box wr (acV x) _ hga)
        rw [hw4] at P4
        have d0 : w4.cell? ⟨ga, 0, none⟩ = some (.int .u8 x.k) := V4.out.cell 0 rfl
        have hxk := hxo.k
        have hm5 : x.k.tmod 5 = x.k % 5 := Int.tmod_eq_emod_of_nonneg hxk.1
        clear P
        by_cases h3 : x.k % 5 = 3
        · rw [h3] at hm5
          go_wp2
          try rw [hw4]
          try rw [hga]
          have X : Hid (PS W w4.drew w1.heap.size bb gw (gw + 1) n m h) := hide (P4.out.below (bMe w4).drew)
          clear hw4 hga P4 V4 d0 a0 a1 a2 a3 a4 a5 a6 a7
          refine wp_region_held_drew (S := fun w1 => URow w1 gw 288 (tl (tb (h n)))) (by kernel_rfl) X.out.row (fun _ => ?_)
          generalize w4.drew = v0 at *
          refine tk0 (v := .pointer (some ⟨w1.heap.size, 0, none⟩)) (by kernel_rfl) (by kernel_rfl) (by kernel_rfl) (fun _ _ _ h => h) X.out.row (Or.inl ⟨by rfl, fun w hw => by go_simp; try (with_reducible rfl)⟩) ?_
          simp only [Act.put, List.setIfInBounds_toArray, List.set_cons_zero, List.set_cons_succ]
          refine tk2 (by kernel_rfl) (by kernel_rfl) (by kernel_rfl) (fun _ _ _ h => h) X.out.row (yieldsIf_load_mid (by rfl) _ _ rfl (gw) (0) rfl (rowU 288 (tl (tb (h n)))) _ (fun _ hw => hw.range) Try.underlying36 rfl (info_tb _)) ?_
          simp only [Act.put, List.setIfInBounds_toArray, List.set_cons_zero, List.set_cons_succ]
          refine wpAnyH_ready (rs := [1]) (by kernel_rfl) (by simp) ?_
          refine rd1 (fun K hK => ?_) AllReadyH.nil
          go_simp
          refine (mark_l X.out.bs).mono ?_
          rintro e v1 ⟨rfl, hb⟩
          simp only []
          replace X := hide (X.out.below hb)
          clear hb
          refine hK.out _ _ X.out.row (fun _ => ?_)
          clear hK K
          refine tk3 (v := .int .i64 (n : Int)) (by kernel_rfl) (by kernel_rfl) (by kernel_rfl) (fun _ _ _ h => h) X.out.row (Or.inl ⟨by rfl, fun w hw => by go_simp; try (with_reducible rfl)⟩) ?_
          simp only [Act.put, List.setIfInBounds_toArray, List.set_cons_zero, List.set_cons_succ]
          refine wpAnyH_ready (rs := [4]) (by kernel_rfl) (by simp) ?_
          refine rd4 (fun K hK => ?_) AllReadyH.nil
          rw [if_pos (by rfl)]
          refine wp_store_mid _ _ _ rfl (gw + 1) 0 (rowU 288 (tl (tb (h n)))).toArray rfl rfl (X.out.kept.thereA _) (info_tbA _) (rowU_oneA _ _) ?_
          obtain ⟨v2, hv2⟩ : ∃ v2, v1.setCells (gw + 1) 0 (rowU 288 (tl (tb (h n)))) = v2 := ⟨_, rfl⟩
          have P6 := hide X.out.mark
          rw [hv2] at P6
          rw [show (rowU 288 (tl (tb (h n)))).toArray.toList = rowU 288 (tl (tb (h n))) from List.toList_toArray, hv2]
          clear hv2 X
          refine hK.out _ _ P6.out.row (fun _ => ?_)
          clear hK K
          refine wpAnyH_done (by kernel_rfl) ?_ _
          have C := hide (same13_any P6.out.bs (by omega))
          go_wp2_with (refine wpList_load_want 36 _ rfl gw 0 rfl (rowU 288 (tl (tb (h n)))) _ ?hr Try.underlying36 rfl (info_tb _) rfl ?_; (case hr => exact P6.out.row.range))
          refine C.out.mono ?_
          clear C
          rintro e w7 ⟨rfl, hb7⟩
          have P7 := hide (P6.out.below hb7)
          clear hb7 P6
          go_wp2
          exact ⟨⟨i + 1, n, n, h, by omega, by simp, rfl, by omega, P7.out⟩, by simp [intOf]; omega⟩
        by_cases h4 : x.k % 5 = 4
        · rw [h4] at hm5
          go_wp2_with fail
          try rw [hw4]
          try rw [hga]
          clear hw4 hga d0 V4 a0 a1 a2 a3 a4 a5 a6 a7
          refine (back_l P4.out.bs P4.out.le (by omega)).mono ?_
          rintro e w5 ⟨rfl, b5, k5⟩
          obtain ⟨⟨q1, q2⟩, q3⟩ := P4.out.back b5 k5
          have Q1 := hide q1
          have Q2 := hide q2
          have P6 := hide q3
          have hmn : m ≤ n := P4.out.le
          obtain ⟨w6, hw6⟩ : ∃ w6, w5.setCells gw 0 (rowU 288 (tl (tb (h m)))) = w6 := ⟨_, rfl⟩
          rw [hw6] at P6
          clear b5 k5 q1 q2 q3 P4
          have C := hide (same13_any P6.out.bs (by omega))
          go_wp2_with (first | (refine wpList_load_mid rfl 36 _ rfl (gw + 1) 0 rfl (rowU 288 (tl (tb (h m)))) _ ?hr Try.underlying36 rfl (info_tb _) ?_; (case hr => exact Q1.out.range)) | (refine wpList_store_mid rfl 36 _ _ rfl gw 0 (rowU 288 (tl (tb (h m)))).toArray rfl rfl ?hr (info_tbA _) (rowU_oneA _ _) ?_; (case hr => exact Q2.out.thereA _); try simp only [List.toList_toArray]; try rw [hw6]) | (refine wpList_load_want 36 _ rfl gw 0 rfl (rowU 288 (tl (tb (h m)))) _ ?hr Try.underlying36 rfl (info_tb _) rfl ?_; (case hr => exact P6.out.row.range)))
          refine C.out.mono ?_
          clear C
          rintro e w7 ⟨rfl, hb7⟩
          have P7 := hide (P6.out.below hb7)
          clear hb7 P6
          go_wp2
          exact ⟨⟨i + 1, m, m, h, by omega, by simp, rfl, by omega, P7.out⟩, by simp [intOf]; omega⟩
        have n3 : ¬ x.k.tmod 5 = 3 := by omega
        have n4 : ¬ x.k.tmod 5 = 4 := by omega
        obtain ⟨d1, d2, d3⟩ : w4.cell? ⟨ga, 1, none⟩ = some (.int .u8 x.t) ∧ w4.cell? ⟨ga, 2, none⟩ = some (.int .u8 x.f) ∧ w4.cell? ⟨ga, 3, none⟩ = some (.int .u8 x.o) := ⟨V4.out.cell 1 rfl, V4.out.cell 2 rfl, V4.out.cell 3 rfl⟩
        have C4 := hide (do_l P4.out.bs (by omega) hxo.mod P4.out.lt)
        obtain ⟨X5, hX5⟩ : ∃ X5, x.k % 5 = X5 := ⟨_, rfl⟩
        have C5 : Hid (Calls Try.prog 10 #[.pointer (some ⟨bb, 0, none⟩), tv (tb (h n)), .agg #[.int .u8 X5, .int .u8 x.t, .int .u8 x.f, .int .u8 x.o, .int .u64 (lm x.n 0), .int .u64 (lm x.n 1), .int .u64 (lm x.n 2), .int .u64 (lm x.n 3)]] w4 fun e w' => Done W w4 w1.heap.size bb n h (fun k => k = gw ∨ k = gw + 1) e w') := by rw [← hX5]; exact C4
        rw [hX5] at hm5
        clear C4
        go_wp2_with (first | (refine wpList_load_mid rfl 36 _ rfl gw 0 rfl (rowU 288 (tl (tb (h n)))) _ ?hr Try.underlying36 rfl (info_tb _) ?_; (case hr => exact P4.out.row.range)) | (refine wpList_load_mid rfl 32 _ rfl ga 4 rfl [.int .u64 (lm x.n 0), .int .u64 (lm x.n 1), .int .u64 (lm x.n 2), .int .u64 (lm x.n 3)] _ ?hr Try.underlying32 rfl (by kernel_rfl) ?_; (case hr => exact V4.out.num)))
        refine C5.out.mono ?_
        clear C5 V4 d0 d1 d2 d3 hw4 hga a0 a1 a2 a3 a4 a5 a6 a7
        rintro e w5 ⟨n', h', rfl, b5, k5, l1, l2, l3⟩
        obtain ⟨q1, q2⟩ := P4.out.act b5 k5 l1 l3
        have Q1 := hide q1
        have P6 := hide q2
        obtain ⟨w6, hw6⟩ : ∃ w6, w5.setCells gw 0 (rowU 288 (tl (tb (h' n')))) = w6 := ⟨_, rfl⟩
        rw [hw6] at P6
        clear b5 k5 l3 q1 q2 P4
        have C := hide (same13_any P6.out.bs (by omega))
        go_wp2_with (first | (refine wpList_store_mid rfl 36 _ _ rfl gw 0 (rowU 288 (tl (tb (h' n')))).toArray rfl rfl ?hr (info_tbA _) (rowU_oneA _ _) ?_; (case hr => exact Q1.out.thereA _); try simp only [List.toList_toArray]; try rw [hw6]) | (refine wpList_load_want 36 _ rfl gw 0 rfl (rowU 288 (tl (tb (h' n')))) _ ?hr Try.underlying36 rfl (info_tb _) rfl ?_; (case hr => exact P6.out.row.range)))
        refine C.out.mono ?_
        clear C
        rintro e w7 ⟨rfl, hb7⟩
        have P7 := hide (P6.out.below hb7)
        clear hb7 P6
        go_wp2
        exact ⟨⟨i + 1, m, n', h', by omega, by simp, rfl, by omega, P7.out⟩, by simp [intOf]; omega⟩
      · obtain rfl : i = xs.length := by omega
        clear hlt hps
        obtain ⟨gz, hgz⟩ : ∃ gz, wr.heap.size = gz := ⟨_, rfl⟩
        obtain ⟨wz, hwz⟩ : ∃ wz, wr.alloc (.cells #[.int .u64 0, .int .u64 0, .int .u64 0, .int .u64 0] 32) = wz := ⟨_, rfl⟩
        have PZ : Hid (PS W wz w1.heap.size bb gw (gw + 1) n m h) := by rw [← hwz]; exact hide (P.out.below (bAl (bMe wr)))
        have VZ : Hid (VRow wz gz [.int .u64 0, .int .u64 0, .int .u64 0, .int .u64 0]) := by rw [← hwz]; exact hide (VRow.box wr [.int .u64 0, .int .u64 0, .int .u64 0, .int .u64 0] _ hgz)
        have CB := hide (fun (v : World) (hb : Below wz.heap.size wz v) => balance_l (PZ.out.below hb).bs hbt hbp)
        have CS := hide (fun (v : World) (hb : Below wz.heap.size wz v) => supply_l (PZ.out.below hb).bs hbt)
        have HBO := hide (fun hk => PZ.out.bs.good.1.out (k := (t, p)) hk)
        have HSO : Hid (¬ t < 4 → sup (h n) t = 0) := by
          intro h4
          unfold sup
          rw [sums_congr (g := fun _ => 0) 18 fun p _ => PZ.out.bs.good.1.out (k := (t, (p : Int))) fun q => h4 q.1.2]
          decide
        have hz4 : same4 0 0 0 0 0 0 0 0 = true := rfl
        have bz : big 0 = .agg #[.int .u64 0, .int .u64 0, .int .u64 0, .int .u64 0] := by show Value.agg #[.int .u64 (lm 0 0), .int .u64 (lm 0 1), .int .u64 (lm 0 2), .int .u64 (lm 0 3)] = _; rw [lm_zero, lm_zero, lm_zero, lm_zero]
        clear P
        by_cases h4 : t < 4
        · by_cases hq : p < 18
          · have hp4 : p < 18 := hq
            have HWZ := hide hwz
            have HGZ := hide hgz
            clear hwz hgz
            go_wp2
            rw [HWZ.out, HGZ.out]
            clear HWZ HGZ
            have X : Hid (Below wz.heap.size wz wz.drew) := hide (bMe wz).drew
            refine wp_region_held_drew (S := fun v => Below wz.heap.size wz v) (by kernel_rfl) X.out (fun _ => ?_)
            generalize wz.drew = v0 at *
            refine tk0 (v := .int .u8 t) (by kernel_rfl) (by kernel_rfl) (by kernel_rfl) (fun _ _ _ h => h) X.out (Or.inl ⟨by rfl, fun w hw => by go_simp; try (with_reducible rfl)⟩) ?_
            simp only [Act.put, List.setIfInBounds_toArray, List.set_cons_zero, List.set_cons_succ]
            refine tk1 (v := .bool true) (by kernel_rfl) (by kernel_rfl) (by kernel_rfl) (fun _ _ _ h => h) X.out (Or.inl ⟨by rfl, fun w hw => by go_simp; try (with_reducible rfl)⟩) ?_
            simp only [Act.put, List.setIfInBounds_toArray, List.set_cons_zero, List.set_cons_succ]
            refine tk2 (v := .bool true) (by kernel_rfl) (by kernel_rfl) (by kernel_rfl) (fun _ _ _ h => h) X.out (Or.inl ⟨by rfl, fun w hw => by go_simp; try (with_reducible rfl)⟩) ?_
            simp only [Act.put, List.setIfInBounds_toArray, List.set_cons_zero, List.set_cons_succ]
            refine tk3 (v := .int .u8 p) (by kernel_rfl) (by kernel_rfl) (by kernel_rfl) (fun _ _ _ h => h) X.out (Or.inl ⟨by rfl, fun w hw => by go_simp; try (with_reducible rfl)⟩) ?_
            simp only [Act.put, List.setIfInBounds_toArray, List.set_cons_zero, List.set_cons_succ]
            refine tk4 (v := .bool true) (by kernel_rfl) (by kernel_rfl) (by kernel_rfl) (fun _ _ _ h => h) X.out (Or.inl ⟨by rfl, fun w hw => by go_simp; try (with_reducible rfl)⟩) ?_
            simp only [Act.put, List.setIfInBounds_toArray, List.set_cons_zero, List.set_cons_succ]
            refine tk5 (v := .bool true) (by kernel_rfl) (by kernel_rfl) (by kernel_rfl) (fun _ _ _ h => h) X.out (Or.inl ⟨by rfl, fun w hw => by go_simp; try (with_reducible rfl)⟩) ?_
            simp only [Act.put, List.setIfInBounds_toArray, List.set_cons_zero, List.set_cons_succ]
            refine tk6 (v := .bool true) (by kernel_rfl) (by kernel_rfl) (by kernel_rfl) (fun _ _ _ h => h) X.out (Or.inl ⟨by rfl, fun w hw => by go_simp; try (with_reducible rfl)⟩) ?_
            simp only [Act.put, List.setIfInBounds_toArray, List.set_cons_zero, List.set_cons_succ]
            refine tk7 (v := undef) (by kernel_rfl) (by kernel_rfl) (by kernel_rfl) (fun _ _ _ h => h) X.out (Or.inr ⟨by rfl, rfl⟩) ?_
            simp only [Act.put, List.setIfInBounds_toArray, List.set_cons_zero, List.set_cons_succ]
            refine tk8 (v := undef) (by kernel_rfl) (by kernel_rfl) (by kernel_rfl) (fun _ _ _ h => h) X.out (Or.inr ⟨by rfl, rfl⟩) ?_
            simp only [Act.put, List.setIfInBounds_toArray, List.set_cons_zero, List.set_cons_succ]
            refine tk9 (v := undef) (by kernel_rfl) (by kernel_rfl) (by kernel_rfl) (fun _ _ _ h => h) X.out (Or.inr ⟨by rfl, rfl⟩) ?_
            simp only [Act.put, List.setIfInBounds_toArray, List.set_cons_zero, List.set_cons_succ]
            refine tk10 (v := undef) (by kernel_rfl) (by kernel_rfl) (by kernel_rfl) (fun _ _ _ h => h) X.out (Or.inr ⟨by rfl, rfl⟩) ?_
            simp only [Act.put, List.setIfInBounds_toArray, List.set_cons_zero, List.set_cons_succ]
            refine tk11 (v := undef) (by kernel_rfl) (by kernel_rfl) (by kernel_rfl) (fun _ _ _ h => h) X.out (Or.inr ⟨by rfl, rfl⟩) ?_
            simp only [Act.put, List.setIfInBounds_toArray, List.set_cons_zero, List.set_cons_succ]
            refine tk12 (v := undef) (by kernel_rfl) (by kernel_rfl) (by kernel_rfl) (fun _ _ _ h => h) X.out (Or.inr ⟨by rfl, rfl⟩) ?_
            simp only [Act.put, List.setIfInBounds_toArray, List.set_cons_zero, List.set_cons_succ]
            refine tk13 (v := .bool true) (by kernel_rfl) (by kernel_rfl) (by kernel_rfl) (fun _ _ _ h => h) X.out (Or.inl ⟨by rfl, fun w hw => by go_simp; try (with_reducible rfl)⟩) ?_
            simp only [Act.put, List.setIfInBounds_toArray, List.set_cons_zero, List.set_cons_succ]
            refine tk14 (v := .bool true) (by kernel_rfl) (by kernel_rfl) (by kernel_rfl) (fun _ _ _ h => h) X.out (Or.inl ⟨by rfl, fun w hw => by go_simp; try (with_reducible rfl)⟩) ?_
            simp only [Act.put, List.setIfInBounds_toArray, List.set_cons_zero, List.set_cons_succ]
            refine tk15 (v := .int .u8 t) (by kernel_rfl) (by kernel_rfl) (by kernel_rfl) (fun _ _ _ h => h) X.out (Or.inl ⟨by rfl, fun w hw => by go_simp; try (with_reducible rfl)⟩) ?_
            simp only [Act.put, List.setIfInBounds_toArray, List.set_cons_zero, List.set_cons_succ]
            refine tk16 (v := .bool true) (by kernel_rfl) (by kernel_rfl) (by kernel_rfl) (fun _ _ _ h => h) X.out (Or.inl ⟨by rfl, fun w hw => by go_simp; try (with_reducible rfl)⟩) ?_
            simp only [Act.put, List.setIfInBounds_toArray, List.set_cons_zero, List.set_cons_succ]
            refine tk17 (v := .bool true) (by kernel_rfl) (by kernel_rfl) (by kernel_rfl) (fun _ _ _ h => h) X.out (Or.inl ⟨by rfl, fun w hw => by go_simp; try (with_reducible rfl)⟩) ?_
            simp only [Act.put, List.setIfInBounds_toArray, List.set_cons_zero, List.set_cons_succ]
            refine tk18 (v := undef) (by kernel_rfl) (by kernel_rfl) (by kernel_rfl) (fun _ _ _ h => h) X.out (Or.inr ⟨by rfl, rfl⟩) ?_
            simp only [Act.put, List.setIfInBounds_toArray, List.set_cons_zero, List.set_cons_succ]
            refine tk19 (v := undef) (by kernel_rfl) (by kernel_rfl) (by kernel_rfl) (fun _ _ _ h => h) X.out (Or.inr ⟨by rfl, rfl⟩) ?_
            simp only [Act.put, List.setIfInBounds_toArray, List.set_cons_zero, List.set_cons_succ]
            refine tk20 (v := undef) (by kernel_rfl) (by kernel_rfl) (by kernel_rfl) (fun _ _ _ h => h) X.out (Or.inr ⟨by rfl, rfl⟩) ?_
            simp only [Act.put, List.setIfInBounds_toArray, List.set_cons_zero, List.set_cons_succ]
            refine tk21 (v := undef) (by kernel_rfl) (by kernel_rfl) (by kernel_rfl) (fun _ _ _ h => h) X.out (Or.inr ⟨by rfl, rfl⟩) ?_
            simp only [Act.put, List.setIfInBounds_toArray, List.set_cons_zero, List.set_cons_succ]
            refine tk22 (v := undef) (by kernel_rfl) (by kernel_rfl) (by kernel_rfl) (fun _ _ _ h => h) X.out (Or.inr ⟨by rfl, rfl⟩) ?_
            simp only [Act.put, List.setIfInBounds_toArray, List.set_cons_zero, List.set_cons_succ]
            refine tk23 (v := .bool true) (by kernel_rfl) (by kernel_rfl) (by kernel_rfl) (fun _ _ _ h => h) X.out (Or.inl ⟨by rfl, fun w hw => by go_simp; try (with_reducible rfl)⟩) ?_
            simp only [Act.put, List.setIfInBounds_toArray, List.set_cons_zero, List.set_cons_succ]
            refine tk24 (v := .bool true) (by kernel_rfl) (by kernel_rfl) (by kernel_rfl) (fun _ _ _ h => h) X.out (Or.inl ⟨by rfl, fun w hw => by go_simp; try (with_reducible rfl)⟩) ?_
            simp only [Act.put, List.setIfInBounds_toArray, List.set_cons_zero, List.set_cons_succ]
            refine tk25 (v := .bool true) (by kernel_rfl) (by kernel_rfl) (by kernel_rfl) (fun _ _ _ h => h) X.out (Or.inl ⟨by rfl, fun w hw => by go_simp; try (with_reducible rfl)⟩) ?_
            simp only [Act.put, List.setIfInBounds_toArray, List.set_cons_zero, List.set_cons_succ]
            refine wpAnyH_done (by kernel_rfl) ?_ _
            go_wp2
            go_ret
            exact ⟨rfl, (PZ.out.below X.out).bs.be⟩
          · have hz := HBO.out fun k => hq k.2.2
            rw [hz, bz] at CB
            have hp4 : ¬ p < 18 := hq
            clear hz
            have HWZ := hide hwz
            have HGZ := hide hgz
            clear hwz hgz
            go_wp2
            rw [HWZ.out, HGZ.out]
            clear HWZ HGZ
            have X : Hid (Below wz.heap.size wz wz.drew) := hide (bMe wz).drew
            refine wp_region_held_drew (S := fun v => Below wz.heap.size wz v) (by kernel_rfl) X.out (fun _ => ?_)
            generalize wz.drew = v0 at *
            refine tk0 (v := .int .u8 t) (by kernel_rfl) (by kernel_rfl) (by kernel_rfl) (fun _ _ _ h => h) X.out (Or.inl ⟨by rfl, fun w hw => by go_simp; try (with_reducible rfl)⟩) ?_
            simp only [Act.put, List.setIfInBounds_toArray, List.set_cons_zero, List.set_cons_succ]
            refine tk1 (v := .bool true) (by kernel_rfl) (by kernel_rfl) (by kernel_rfl) (fun _ _ _ h => h) X.out (Or.inl ⟨by rfl, fun w hw => by go_simp; try (with_reducible rfl)⟩) ?_
            simp only [Act.put, List.setIfInBounds_toArray, List.set_cons_zero, List.set_cons_succ]
            refine tk2 (v := .bool true) (by kernel_rfl) (by kernel_rfl) (by kernel_rfl) (fun _ _ _ h => h) X.out (Or.inl ⟨by rfl, fun w hw => by go_simp; try (with_reducible rfl)⟩) ?_
            simp only [Act.put, List.setIfInBounds_toArray, List.set_cons_zero, List.set_cons_succ]
            refine tk3 (v := .int .u8 p) (by kernel_rfl) (by kernel_rfl) (by kernel_rfl) (fun _ _ _ h => h) X.out (Or.inl ⟨by rfl, fun w hw => by go_simp; try (with_reducible rfl)⟩) ?_
            simp only [Act.put, List.setIfInBounds_toArray, List.set_cons_zero, List.set_cons_succ]
            refine tk4 (v := .bool false) (by kernel_rfl) (by kernel_rfl) (by kernel_rfl) (fun _ _ _ h => h) X.out (Or.inl ⟨by rfl, fun w hw => by go_simp; try (with_reducible rfl)⟩) ?_
            simp only [Act.put, List.setIfInBounds_toArray, List.set_cons_zero, List.set_cons_succ]
            refine tk5 (v := .bool false) (by kernel_rfl) (by kernel_rfl) (by kernel_rfl) (fun _ _ _ h => h) X.out (Or.inl ⟨by rfl, fun w hw => by go_simp; try (with_reducible rfl)⟩) ?_
            simp only [Act.put, List.setIfInBounds_toArray, List.set_cons_zero, List.set_cons_succ]
            refine tk6 (v := .bool false) (by kernel_rfl) (by kernel_rfl) (by kernel_rfl) (fun _ _ _ h => h) X.out (Or.inl ⟨by rfl, fun w hw => by go_simp; try (with_reducible rfl)⟩) ?_
            simp only [Act.put, List.setIfInBounds_toArray, List.set_cons_zero, List.set_cons_succ]
            refine tk7 (v := .pointer (some ⟨bb, 0, none⟩)) (by kernel_rfl) (by kernel_rfl) (by kernel_rfl) (fun _ _ _ h => h) X.out (Or.inl ⟨by rfl, fun w hw => by go_simp; try (with_reducible rfl)⟩) ?_
            simp only [Act.put, List.setIfInBounds_toArray, List.set_cons_zero, List.set_cons_succ]
            refine tk8 (v := .int .u8 t) (by kernel_rfl) (by kernel_rfl) (by kernel_rfl) (fun _ _ _ h => h) X.out (Or.inl ⟨by rfl, fun w hw => by go_simp; try (with_reducible rfl)⟩) ?_
            simp only [Act.put, List.setIfInBounds_toArray, List.set_cons_zero, List.set_cons_succ]
            refine tk9 (v := .int .u8 p) (by kernel_rfl) (by kernel_rfl) (by kernel_rfl) (fun _ _ _ h => h) X.out (Or.inl ⟨by rfl, fun w hw => by go_simp; try (with_reducible rfl)⟩) ?_
            simp only [Act.put, List.setIfInBounds_toArray, List.set_cons_zero, List.set_cons_succ]
            refine tk11 (by kernel_rfl) (by kernel_rfl) (by kernel_rfl) (fun _ _ _ h => h) X.out (yieldsIf_load_mid (by rfl) _ _ rfl (gz) (0) rfl ([.int .u64 0, .int .u64 0, .int .u64 0, .int .u64 0]) _ (fun _ hw => (VZ.out.after hw rfl).range) Try.underlying32 rfl (by kernel_rfl)) ?_
            simp only [Act.put, List.setIfInBounds_toArray, List.set_cons_zero, List.set_cons_succ]
            refine wpAnyH_ready (rs := [10]) (by kernel_rfl) (by simp) ?_
            refine rd10 (fun K hK => ?_) AllReadyH.nil
            go_simp
            refine (CB.out v0 X.out).mono ?_
            rintro e v1 ⟨rfl, hb⟩
            simp only []
            replace X := hide (bOn X.out hb)
            clear hb
            refine hK.out _ _ X.out (fun _ => ?_)
            clear hK K
            refine tk12 (v := .bool true) (by kernel_rfl) (by kernel_rfl) (by kernel_rfl) (fun _ _ _ h => h) X.out (Or.inl ⟨by rfl, fun w hw => by go_simp; try (with_reducible rfl)⟩) ?_
            simp only [Act.put, List.setIfInBounds_toArray, List.set_cons_zero, List.set_cons_succ]
            refine tk13 (v := .bool true) (by kernel_rfl) (by kernel_rfl) (by kernel_rfl) (fun _ _ _ h => h) X.out (Or.inl ⟨by rfl, fun w hw => by go_simp; try (with_reducible rfl)⟩) ?_
            simp only [Act.put, List.setIfInBounds_toArray, List.set_cons_zero, List.set_cons_succ]
            refine tk14 (v := .bool true) (by kernel_rfl) (by kernel_rfl) (by kernel_rfl) (fun _ _ _ h => h) X.out (Or.inl ⟨by rfl, fun w hw => by go_simp; try (with_reducible rfl)⟩) ?_
            simp only [Act.put, List.setIfInBounds_toArray, List.set_cons_zero, List.set_cons_succ]
            refine tk15 (v := .int .u8 t) (by kernel_rfl) (by kernel_rfl) (by kernel_rfl) (fun _ _ _ h => h) X.out (Or.inl ⟨by rfl, fun w hw => by go_simp; try (with_reducible rfl)⟩) ?_
            simp only [Act.put, List.setIfInBounds_toArray, List.set_cons_zero, List.set_cons_succ]
            refine tk16 (v := .bool true) (by kernel_rfl) (by kernel_rfl) (by kernel_rfl) (fun _ _ _ h => h) X.out (Or.inl ⟨by rfl, fun w hw => by go_simp; try (with_reducible rfl)⟩) ?_
            simp only [Act.put, List.setIfInBounds_toArray, List.set_cons_zero, List.set_cons_succ]
            refine tk17 (v := .bool true) (by kernel_rfl) (by kernel_rfl) (by kernel_rfl) (fun _ _ _ h => h) X.out (Or.inl ⟨by rfl, fun w hw => by go_simp; try (with_reducible rfl)⟩) ?_
            simp only [Act.put, List.setIfInBounds_toArray, List.set_cons_zero, List.set_cons_succ]
            refine tk18 (v := undef) (by kernel_rfl) (by kernel_rfl) (by kernel_rfl) (fun _ _ _ h => h) X.out (Or.inr ⟨by rfl, rfl⟩) ?_
            simp only [Act.put, List.setIfInBounds_toArray, List.set_cons_zero, List.set_cons_succ]
            refine tk19 (v := undef) (by kernel_rfl) (by kernel_rfl) (by kernel_rfl) (fun _ _ _ h => h) X.out (Or.inr ⟨by rfl, rfl⟩) ?_
            simp only [Act.put, List.setIfInBounds_toArray, List.set_cons_zero, List.set_cons_succ]
            refine tk20 (v := undef) (by kernel_rfl) (by kernel_rfl) (by kernel_rfl) (fun _ _ _ h => h) X.out (Or.inr ⟨by rfl, rfl⟩) ?_
            simp only [Act.put, List.setIfInBounds_toArray, List.set_cons_zero, List.set_cons_succ]
            refine tk21 (v := undef) (by kernel_rfl) (by kernel_rfl) (by kernel_rfl) (fun _ _ _ h => h) X.out (Or.inr ⟨by rfl, rfl⟩) ?_
            simp only [Act.put, List.setIfInBounds_toArray, List.set_cons_zero, List.set_cons_succ]
            refine tk22 (v := undef) (by kernel_rfl) (by kernel_rfl) (by kernel_rfl) (fun _ _ _ h => h) X.out (Or.inr ⟨by rfl, rfl⟩) ?_
            simp only [Act.put, List.setIfInBounds_toArray, List.set_cons_zero, List.set_cons_succ]
            refine tk23 (v := .bool true) (by kernel_rfl) (by kernel_rfl) (by kernel_rfl) (fun _ _ _ h => h) X.out (Or.inl ⟨by rfl, fun w hw => by go_simp; try (with_reducible rfl)⟩) ?_
            simp only [Act.put, List.setIfInBounds_toArray, List.set_cons_zero, List.set_cons_succ]
            refine tk24 (v := .bool true) (by kernel_rfl) (by kernel_rfl) (by kernel_rfl) (fun _ _ _ h => h) X.out (Or.inl ⟨by rfl, fun w hw => by go_simp; try (with_reducible rfl)⟩) ?_
            simp only [Act.put, List.setIfInBounds_toArray, List.set_cons_zero, List.set_cons_succ]
            refine tk25 (v := .bool true) (by kernel_rfl) (by kernel_rfl) (by kernel_rfl) (fun _ _ _ h => h) X.out (Or.inl ⟨by rfl, fun w hw => by go_simp; try (with_reducible rfl)⟩) ?_
            simp only [Act.put, List.setIfInBounds_toArray, List.set_cons_zero, List.set_cons_succ]
            refine wpAnyH_done (by kernel_rfl) ?_ _
            go_wp2
            go_ret
            exact ⟨rfl, (PZ.out.below X.out).bs.be⟩
        · have hz := HBO.out fun k => h4 k.1.2
          rw [hz, bz] at CB
          have hs := HSO.out h4
          rw [hs, bz] at CS
          clear hz hs
          have HWZ := hide hwz
          have HGZ := hide hgz
          clear hwz hgz
          go_wp2
          rw [HWZ.out, HGZ.out]
          clear HWZ HGZ
          have X : Hid (Below wz.heap.size wz wz.drew) := hide (bMe wz).drew
          refine wp_region_held_drew (S := fun v => Below wz.heap.size wz v) (by kernel_rfl) X.out (fun _ => ?_)
          generalize wz.drew = v0 at *
          refine tk0 (v := .int .u8 t) (by kernel_rfl) (by kernel_rfl) (by kernel_rfl) (fun _ _ _ h => h) X.out (Or.inl ⟨by rfl, fun w hw => by go_simp; try (with_reducible rfl)⟩) ?_
          simp only [Act.put, List.setIfInBounds_toArray, List.set_cons_zero, List.set_cons_succ]
          refine tk1 (v := .bool false) (by kernel_rfl) (by kernel_rfl) (by kernel_rfl) (fun _ _ _ h => h) X.out (Or.inl ⟨by rfl, fun w hw => by go_simp; try (with_reducible rfl)⟩) ?_
          simp only [Act.put, List.setIfInBounds_toArray, List.set_cons_zero, List.set_cons_succ]
          refine tk2 (v := .bool false) (by kernel_rfl) (by kernel_rfl) (by kernel_rfl) (fun _ _ _ h => h) X.out (Or.inl ⟨by rfl, fun w hw => by go_simp; try (with_reducible rfl)⟩) ?_
          simp only [Act.put, List.setIfInBounds_toArray, List.set_cons_zero, List.set_cons_succ]
          refine tk3 (v := undef) (by kernel_rfl) (by kernel_rfl) (by kernel_rfl) (fun _ _ _ h => h) X.out (Or.inr ⟨by rfl, rfl⟩) ?_
          simp only [Act.put, List.setIfInBounds_toArray, List.set_cons_zero, List.set_cons_succ]
          refine tk4 (v := undef) (by kernel_rfl) (by kernel_rfl) (by kernel_rfl) (fun _ _ _ h => h) X.out (Or.inr ⟨by rfl, rfl⟩) ?_
          simp only [Act.put, List.setIfInBounds_toArray, List.set_cons_zero, List.set_cons_succ]
          refine tk5 (v := .bool false) (by kernel_rfl) (by kernel_rfl) (by kernel_rfl) (fun _ _ _ h => h) X.out (Or.inl ⟨by rfl, fun w hw => by go_simp; try (with_reducible rfl)⟩) ?_
          simp only [Act.put, List.setIfInBounds_toArray, List.set_cons_zero, List.set_cons_succ]
          refine tk6 (v := .bool false) (by kernel_rfl) (by kernel_rfl) (by kernel_rfl) (fun _ _ _ h => h) X.out (Or.inl ⟨by rfl, fun w hw => by go_simp; try (with_reducible rfl)⟩) ?_
          simp only [Act.put, List.setIfInBounds_toArray, List.set_cons_zero, List.set_cons_succ]
          refine tk7 (v := .pointer (some ⟨bb, 0, none⟩)) (by kernel_rfl) (by kernel_rfl) (by kernel_rfl) (fun _ _ _ h => h) X.out (Or.inl ⟨by rfl, fun w hw => by go_simp; try (with_reducible rfl)⟩) ?_
          simp only [Act.put, List.setIfInBounds_toArray, List.set_cons_zero, List.set_cons_succ]
          refine tk8 (v := .int .u8 t) (by kernel_rfl) (by kernel_rfl) (by kernel_rfl) (fun _ _ _ h => h) X.out (Or.inl ⟨by rfl, fun w hw => by go_simp; try (with_reducible rfl)⟩) ?_
          simp only [Act.put, List.setIfInBounds_toArray, List.set_cons_zero, List.set_cons_succ]
          refine tk9 (v := .int .u8 p) (by kernel_rfl) (by kernel_rfl) (by kernel_rfl) (fun _ _ _ h => h) X.out (Or.inl ⟨by rfl, fun w hw => by go_simp; try (with_reducible rfl)⟩) ?_
          simp only [Act.put, List.setIfInBounds_toArray, List.set_cons_zero, List.set_cons_succ]
          refine tk11 (by kernel_rfl) (by kernel_rfl) (by kernel_rfl) (fun _ _ _ h => h) X.out (yieldsIf_load_mid (by rfl) _ _ rfl (gz) (0) rfl ([.int .u64 0, .int .u64 0, .int .u64 0, .int .u64 0]) _ (fun _ hw => (VZ.out.after hw rfl).range) Try.underlying32 rfl (by kernel_rfl)) ?_
          simp only [Act.put, List.setIfInBounds_toArray, List.set_cons_zero, List.set_cons_succ]
          refine wpAnyH_ready (rs := [10]) (by kernel_rfl) (by simp) ?_
          refine rd10 (fun K hK => ?_) AllReadyH.nil
          go_simp
          refine (CB.out v0 X.out).mono ?_
          rintro e v1 ⟨rfl, hb⟩
          simp only []
          replace X := hide (bOn X.out hb)
          clear hb
          refine hK.out _ _ X.out (fun _ => ?_)
          clear hK K
          refine tk12 (v := .bool true) (by kernel_rfl) (by kernel_rfl) (by kernel_rfl) (fun _ _ _ h => h) X.out (Or.inl ⟨by rfl, fun w hw => by go_simp; try (with_reducible rfl)⟩) ?_
          simp only [Act.put, List.setIfInBounds_toArray, List.set_cons_zero, List.set_cons_succ]
          refine tk13 (v := .bool true) (by kernel_rfl) (by kernel_rfl) (by kernel_rfl) (fun _ _ _ h => h) X.out (Or.inl ⟨by rfl, fun w hw => by go_simp; try (with_reducible rfl)⟩) ?_
          simp only [Act.put, List.setIfInBounds_toArray, List.set_cons_zero, List.set_cons_succ]
          refine tk14 (v := .bool true) (by kernel_rfl) (by kernel_rfl) (by kernel_rfl) (fun _ _ _ h => h) X.out (Or.inl ⟨by rfl, fun w hw => by go_simp; try (with_reducible rfl)⟩) ?_
          simp only [Act.put, List.setIfInBounds_toArray, List.set_cons_zero, List.set_cons_succ]
          refine tk15 (v := .int .u8 t) (by kernel_rfl) (by kernel_rfl) (by kernel_rfl) (fun _ _ _ h => h) X.out (Or.inl ⟨by rfl, fun w hw => by go_simp; try (with_reducible rfl)⟩) ?_
          simp only [Act.put, List.setIfInBounds_toArray, List.set_cons_zero, List.set_cons_succ]
          refine tk16 (v := .bool false) (by kernel_rfl) (by kernel_rfl) (by kernel_rfl) (fun _ _ _ h => h) X.out (Or.inl ⟨by rfl, fun w hw => by go_simp; try (with_reducible rfl)⟩) ?_
          simp only [Act.put, List.setIfInBounds_toArray, List.set_cons_zero, List.set_cons_succ]
          refine tk17 (v := .bool false) (by kernel_rfl) (by kernel_rfl) (by kernel_rfl) (fun _ _ _ h => h) X.out (Or.inl ⟨by rfl, fun w hw => by go_simp; try (with_reducible rfl)⟩) ?_
          simp only [Act.put, List.setIfInBounds_toArray, List.set_cons_zero, List.set_cons_succ]
          refine tk18 (v := .pointer (some ⟨bb, 0, none⟩)) (by kernel_rfl) (by kernel_rfl) (by kernel_rfl) (fun _ _ _ h => h) X.out (Or.inl ⟨by rfl, fun w hw => by go_simp; try (with_reducible rfl)⟩) ?_
          simp only [Act.put, List.setIfInBounds_toArray, List.set_cons_zero, List.set_cons_succ]
          refine tk19 (v := .int .u8 t) (by kernel_rfl) (by kernel_rfl) (by kernel_rfl) (fun _ _ _ h => h) X.out (Or.inl ⟨by rfl, fun w hw => by go_simp; try (with_reducible rfl)⟩) ?_
          simp only [Act.put, List.setIfInBounds_toArray, List.set_cons_zero, List.set_cons_succ]
          refine tk21 (by kernel_rfl) (by kernel_rfl) (by kernel_rfl) (fun _ _ _ h => h) X.out (yieldsIf_load_mid (by rfl) _ _ rfl (gz) (0) rfl ([.int .u64 0, .int .u64 0, .int .u64 0, .int .u64 0]) _ (fun _ hw => (VZ.out.after hw rfl).range) Try.underlying32 rfl (by kernel_rfl)) ?_
          simp only [Act.put, List.setIfInBounds_toArray, List.set_cons_zero, List.set_cons_succ]
          refine wpAnyH_ready (rs := [20]) (by kernel_rfl) (by simp) ?_
          refine rd20 (fun K hK => ?_) AllReadyH.nil
          go_simp
          refine (CS.out v1 X.out).mono ?_
          rintro e v2 ⟨rfl, hb⟩
          simp only []
          replace X := hide (bOn X.out hb)
          clear hb
          refine hK.out _ _ X.out (fun _ => ?_)
          clear hK K
          refine tk22 (v := .bool true) (by kernel_rfl) (by kernel_rfl) (by kernel_rfl) (fun _ _ _ h => h) X.out (Or.inl ⟨by rfl, fun w hw => by go_simp; try (with_reducible rfl)⟩) ?_
          simp only [Act.put, List.setIfInBounds_toArray, List.set_cons_zero, List.set_cons_succ]
          refine tk23 (v := .bool true) (by kernel_rfl) (by kernel_rfl) (by kernel_rfl) (fun _ _ _ h => h) X.out (Or.inl ⟨by rfl, fun w hw => by go_simp; try (with_reducible rfl)⟩) ?_
          simp only [Act.put, List.setIfInBounds_toArray, List.set_cons_zero, List.set_cons_succ]
          refine tk24 (v := .bool true) (by kernel_rfl) (by kernel_rfl) (by kernel_rfl) (fun _ _ _ h => h) X.out (Or.inl ⟨by rfl, fun w hw => by go_simp; try (with_reducible rfl)⟩) ?_
          simp only [Act.put, List.setIfInBounds_toArray, List.set_cons_zero, List.set_cons_succ]
          refine tk25 (v := .bool true) (by kernel_rfl) (by kernel_rfl) (by kernel_rfl) (fun _ _ _ h => h) X.out (Or.inl ⟨by rfl, fun w hw => by go_simp; try (with_reducible rfl)⟩) ?_
          simp only [Act.put, List.setIfInBounds_toArray, List.set_cons_zero, List.set_cons_succ]
          refine wpAnyH_done (by kernel_rfl) ?_ _
          go_wp2
          go_ret
          exact ⟨rfl, (PZ.out.below X.out).bs.be⟩
end Go.Proofs.Ytodjfenbbbdofaa
