/- sponsionlaw14.PairMaps is true (gen-pairmaps.py). -/
import Derived.Test.YtncnilplmklccaaImVal
import Derived.Test.YtncnilplmklccaaHand
namespace Go.Proofs.Ytncnilplmklccaa
set_option linter.unusedSimpArgs false
set_option linter.unusedVariables false
open Go.RowKit Go.Lib
attribute [local go_sem] setCell_drewN alloc_drewN

theorem lm_small {s : Int} (h : 0 ≤ s ∧ s < 18446744073709551616) : lm s 0 = s ∧ lm s 1 = 0 ∧ lm s 2 = 0 ∧ lm s 3 = 0 := by unfold lm; omega
open Im in
set_option maxRecDepth 100000 in
set_option maxHeartbeats 16000000 in
theorem pairMaps_walk (ao : Option Addr) (cap : Nat) (l : List Int) (ao2 : Option Addr) (cap2 : Nat) (fl : List Bool) (W : World) (hl : l.length ≤ cap ∧ cap ≤ maxLen ∧ Vls W ao (iV l) ∧ ∀ x ∈ l, (Lit.int .i64 x).wf = true) (hl2 : fl.length ≤ cap2 ∧ cap2 ≤ maxLen ∧ Vls W ao2 (tV fl)) :
    Calls Try.prog 5 #[.slice ao l.length cap, .slice ao2 fl.length cap2] W fun e w' => e = .returned (.bool true) ∧ Below W.heap.size W w' := by
  by_cases hs : 30 < l.length ∨ fl.length < l.length
  · by_cases h3 : 30 < l.length
    · have h2 : (30 : Int) < l.length := by omega
      obtain ⟨gf, hgf⟩ : ∃ gf, W.heap.size = gf := ⟨_, rfl⟩
      obtain ⟨w0, hw0⟩ : ∃ w0, W.alloc (.cells #[.slice ao2 fl.length cap2] 43) = w0 := ⟨_, rfl⟩
      have c0 : w0.cell? ⟨gf, 0, none⟩ = some (.slice ao2 fl.length cap2) := by rw [← hw0, ← hgf]; simp [go_sem]
      have B0 : Below W.heap.size W w0 := by rw [← hw0]; exact bAl (bMe W)
      go_enter Try.func5, Try.ntmps5
      go_wp2_with fail
      try rw [hw0]
      try rw [hgf]
      refine (lives14_any w0).mono ?_
      rintro e w1 ⟨rfl, hb1⟩
      have c1 : w1.cell? ⟨gf, 0, none⟩ = some (.slice ao2 fl.length cap2) := ((bcell hb1).1 _ _ (cell_lt c0)).trans c0
      go_wp2_with fail
      refine (lives14_any w1).mono ?_
      rintro e w2 ⟨rfl, hb2⟩
      go_wp2
      go_ret
      rw [← hgf]
      exact ⟨rfl, bOn (bOn B0 hb1) hb2⟩
    · have h2 : (l.length : Int) ≤ 30 := by omega
      have hd2 : decide (30 < (l.length : Int)) = false := decide_eq_false (by omega)
      have h4 : (fl.length : Int) < l.length := by omega
      obtain ⟨gf, hgf⟩ : ∃ gf, W.heap.size = gf := ⟨_, rfl⟩
      obtain ⟨w0, hw0⟩ : ∃ w0, W.alloc (.cells #[.slice ao2 fl.length cap2] 43) = w0 := ⟨_, rfl⟩
      have c0 : w0.cell? ⟨gf, 0, none⟩ = some (.slice ao2 fl.length cap2) := by rw [← hw0, ← hgf]; simp [go_sem]
      have B0 : Below W.heap.size W w0 := by rw [← hw0]; exact bAl (bMe W)
      go_enter Try.func5, Try.ntmps5
      go_wp2_with fail
      try rw [hw0]
      try rw [hgf]
      refine (lives14_any w0).mono ?_
      rintro e w1 ⟨rfl, hb1⟩
      have c1 : w1.cell? ⟨gf, 0, none⟩ = some (.slice ao2 fl.length cap2) := ((bcell hb1).1 _ _ (cell_lt c0)).trans c0
      go_wp2_with fail
      refine (lives14_any w1).mono ?_
      rintro e w2 ⟨rfl, hb2⟩
      go_wp2
      go_ret
      rw [← hgf]
      exact ⟨rfl, bOn (bOn B0 hb1) hb2⟩
  · have h2 : (l.length : Int) ≤ 30 := by omega
    have hd2 : decide (30 < (l.length : Int)) = false := decide_eq_false (by omega)
    have h4 : (l.length : Int) ≤ fl.length := by omega
    have hmm := @run_makeMap Try.prog
    have hmf : ∀ (fn : Fn) (first cap : Array Value) (w : World), (Instr.makeFunc fn first cap).run Try.prog w = .ok (.func fn first cap) w := fun _ _ _ _ => rfl
    have HV := hide (And.intro hl.2.2.1 hl2.2.2)
    have HY := hide hl.2.2.2
    clear hl hl2
    obtain ⟨gf, hgf⟩ : ∃ gf, W.heap.size = gf := ⟨_, rfl⟩
    obtain ⟨w0, hw0⟩ : ∃ w0, W.alloc (.cells #[.slice ao2 fl.length cap2] 43) = w0 := ⟨_, rfl⟩
    have hb0 : Below W.heap.size W w0 := by rw [← hw0]; exact bAl (bMe W)
    have c0 : w0.cell? ⟨gf, 0, none⟩ = some (.slice ao2 fl.length cap2) := by rw [← hw0, ← hgf]; simp [go_sem]
    have C0 := hide c0
    have B0 := hide hb0
    clear c0 hb0
    go_enter Try.func5, Try.ntmps5
    go_wp2_with fail
    try rw [hw0]
    refine (lives14_any w0).mono ?_
    rintro e w1 ⟨rfl, hb1⟩
    have C1 : Hid (w1.cell? ⟨gf, 0, none⟩ = some (.slice ao2 fl.length cap2)) := hide (((bcell hb1).1 _ _ (cell_lt C0.out)).trans C0.out)
    have c1 := C1.out
    have HN := hide (new14_any (bOn B0.out hb1) (Fr := fun k => k = gf) (fun k h => by subst h; exact cell_lt C1.out))
    obtain ⟨bp, hbp⟩ : ∃ bp, w1.heap.size = bp := ⟨_, rfl⟩
    rw [hbp] at HN
    try rw [hgf]
    clear hw0 C0
    go_wp2_with fail
    refine HN.out.mono ?_
    clear HN
    rintro e w2 ⟨rfl, p2, k2⟩
    have C2 : Hid (w2.cell? ⟨gf, 0, none⟩ = some (.slice ao2 fl.length cap2)) := hide ((k2.cell rfl).trans C1.out)
    have P2 := hide p2
    clear p2 k2 C1 c1 hb1 hbp
    obtain ⟨gp, hgp⟩ : ∃ gp, w2.heap.size = gp := ⟨_, rfl⟩
    obtain ⟨w3, hw3⟩ : ∃ w3, w2.alloc (.cells #[.pointer (some ⟨bp, 0, none⟩)] 29) = w3 := ⟨_, rfl⟩
    have B3 : Hid (Below w2.heap.size w2 w3 ∧ w3.heap.size = gp + 1 ∧ w3.cell? ⟨gp, 0, none⟩ = some (.pointer (some ⟨bp, 0, none⟩)) ∧ w2.heap.size = gp) := by rw [← hw3, ← hgp]; exact hide ⟨bAl (bMe w2), by simp, by simp [go_sem], rfl⟩
    have cp3 := B3.out.2.2.1
    go_wp2_with fail
    try rw [hgp]
    try rw [hw3]
    refine (journal14_any w3 bp).mono ?_
    rintro e w4 ⟨rfl, rfl⟩
    clear hw3 hgp
    have HS := hide (Im.snew_any w4 bp)
    go_wp2_with fail
    refine HS.out.mono ?_
    clear HS cp3
    rintro e w5 ⟨rfl, hb5, hz5, bx5, m5⟩
    obtain ⟨bm, hbm⟩ : ∃ bm, w4.heap.size = bm := ⟨_, rfl⟩
    obtain ⟨a, ha⟩ : ∃ a, bm + 1 = a := ⟨_, rfl⟩
    rw [hbm, ha] at bx5
    rw [hbm] at m5
    try rw [hbm, ha]
    obtain ⟨gm, hgm⟩ : ∃ gm, w5.heap.size = gm := ⟨_, rfl⟩
    obtain ⟨bv, hbv⟩ : ∃ bv, gm + 1 = bv := ⟨_, rfl⟩
    obtain ⟨w6, hw6⟩ : ∃ w6, (w5.alloc (.cells #[.pointer (some ⟨a, 0, none⟩)] 44)).alloc (.map #[] 0) = w6 := ⟨_, rfl⟩
    have S6 : Hid (ImS W w6 (Own6 a bm bv gm gp gf) bp a bm bv gm gp gf ao2 fl cap2 (fun _ => []) (List.replicate 16 0) [] [] 0 0) := by
      have b6 : Below w5.heap.size w5 w6 := by rw [← hw6]; exact bAl (bAl (bMe w5))
      have z6 : w6.heap.size = gm + 2 := by rw [← hw6]; simp; omega
      have b26 : Below w2.heap.size w2 w6 := bOn (bOn B3.out.1 hb5) b6
      have zg := B3.out.2.1
      have zp := P2.out.low gf rfl
      have lW := P2.out.be.size
      have hgp2 := B3.out.2.2.2
      have cm6 : w6.cell? ⟨gm, 0, none⟩ = some (.pointer (some ⟨a, 0, none⟩)) := by rw [← hw6, ← hgm]; simp [go_sem]
      have v6 : Vm.MapIs Vm.encV w6 bv [] := by
        have e : (w5.alloc (.cells #[.pointer (some ⟨a, 0, none⟩)] 44)).heap.size = bv := by simp; omega
        rw [← hw6, ← e]
        exact Vm.MapIs.made Vm.encV _
      refine hide ⟨(P2.out.add (F := fun j => j = a ∨ j = bm ∨ j = bv ∨ j = gm ∨ j = gp) b26 fun j hj => by omega).sub fun j hj => ?_, fun j hj => hj, bx5.of (b6.block _ (by omega)), m5.of _ (b6.block _ (by omega)), v6, by omega, by omega, by omega, List.Pairwise.nil, Nat.le_refl _, List.Pairwise.nil, Nat.le_refl _, bal_nil _, sup_nil _, rfl, by omega, cm6, ?_, ?_⟩
      · unfold Own6 at hj
        rcases hj with h | h | h | h | h | h <;> simp [h]
      · exact ((bcell (bOn hb5 b6)).1 _ _ (by omega)).trans B3.out.2.2.1
      · exact ((bcell b26).1 _ _ zp).trans C2.out
    clear hb5 hz5 bx5 m5
    go_wp2
    try rw [hgm]
    try rw [hbv]
    try rw [hw6]
    clear hw6
    go_loopw [38, 7] (fun q sm wr => ∃ (i : Nat) (L0 : Nat → BKs) (N : List Int) (L : Im.Kvs) (s : Int), i ≤ l.length ∧ q = .int .i64 i ∧ sm = .int .u64 s ∧ ImS W wr (Own6 a bm bv gm gp gf) bp a bm bv gm gp gf ao2 fl cap2 L0 N L L s i) (fun q _ _ => (l.length - intOf q).toNat)
    case atStart => exact ⟨0, _, _, _, 0, Nat.zero_le _, rfl, rfl, S6.out⟩
    case round =>
      obtain ⟨i, L0, N, L, s, hi, rfl, rfl, hn⟩ := hrel
      clear S6
      by_cases hlt : i < l.length
      · have hlt1 : (i : Int) < l.length := by omega
        have hlt2 : (i : Int) < fl.length := by omega
        obtain ⟨x, hx⟩ : ∃ x, l[i]? = some x := ⟨l[i], List.getElem?_eq_getElem hlt⟩
        obtain ⟨f, hf⟩ : ∃ f, fl[i]? = some f := ⟨fl[i]'(by omega), List.getElem?_eq_getElem (by omega)⟩
        have hxw := HY.out x (List.mem_of_getElem? hx)
        obtain ⟨b, off, rfl, lb, cb⟩ := HV.out.1.got hn.pq.be (iV_get hx)
        have HSN := hide hn
        clear hn
        obtain ⟨gi, hgi⟩ : ∃ gi, wr.heap.size = gi := ⟨_, rfl⟩
        obtain ⟨gx, hgx⟩ : ∃ gx, gi + 1 = gx := ⟨_, rfl⟩
        obtain ⟨w7, hw7⟩ : ∃ w7, (wr.alloc (.cells #[.int .i64 i] 3)).alloc (.cells #[.int .i64 x] 3) = w7 := ⟨_, rfl⟩
        have S7 : Hid (ImS W w7 (Own8 a bm bv gm gp gf gi gx) bp a bm bv gm gp gf ao2 fl cap2 L0 N L L s i ∧ w7.cell? ⟨gi, 0, none⟩ = some (.int .i64 i) ∧ w7.cell? ⟨gx, 0, none⟩ = some (.int .i64 x)) := by
          have b7 : Below wr.heap.size wr w7 := by rw [← hw7]; exact bAl (bAl (bMe wr))
          have z7 : w7.heap.size = wr.heap.size + 2 := by rw [← hw7]; simp
          refine hide ⟨HSN.out.add b7 (by omega) (by omega), ?_, ?_⟩
          · rw [← hw7, ← hgi]; simp [go_sem]
          · rw [← hw7, ← hgx, ← hgi]; simp [go_sem]
        have HGI := hide (And.intro hgi (And.intro hgx hw7))
        clear hgi hgx hw7
        go_wp2
        try rw [HGI.out.2.2]
        try rw [HGI.out.1]
        try rw [HGI.out.2.1]
        clear HGI cb
        have S8 : Hid (ImS W w7.drew (Own8 a bm bv gm gp gf gi gx) bp a bm bv gm gp gf ao2 fl cap2 L0 N L L s i ∧ w7.drew.cell? ⟨gi, 0, none⟩ = some (.int .i64 i) ∧ w7.drew.cell? ⟨gx, 0, none⟩ = some (.int .i64 x)) := hide ⟨S7.out.1.after (bMe w7).drew, S7.out.2.1, S7.out.2.2⟩
        clear S7
        obtain ⟨hE, hB1, hU1⟩ := mint_one (S8.out.1.pq.good 1 0 (by omega) (Nat.le_refl _)).1 S8.out.1.b S8.out.1.u (by have := S8.out.1.s; omega)
        have HM1 := hide (And.intro hE (And.intro hB1 hU1))
        have CT := hide (tryIm_any (i := i) (f := f) (gi := gi) (gx := gx) S8.out.1.pq (S8.out.1.fr a (by simp [Own6])) (S8.out.1.fr bm (by simp [Own6])) S8.out.1.lm S8.out.1.box S8.out.1.map S8.out.1.srt (by have := S8.out.1.len; omega) hxw (fun j hj => by unfold Own8; rcases hj with h | h | h | h | h <;> simp [h]) ⟨S8.out.1.cm, S8.out.2.2, S8.out.2.1, S8.out.1.cp, S8.out.1.cf⟩ HV.out.2 hf hE S8.out.1.n (by have := S8.out.1.s; omega))
        have CO := hide (nonce_any (a := 1) (by omega) (S8.out.1.pq.cell S8.out.1.n))
        clear hE hB1 hU1
        refine wp_region_held_drew (S := fun w1 => w1.cell? ⟨gp, 0, none⟩ = some (.pointer (some ⟨bp, 0, none⟩))) (by kernel_rfl) S8.out.1.cp (fun _ => ?_)
        generalize w7.drew = w8 at *
        refine tk0 (v := .pointer (some ⟨bp, 0, none⟩)) (by kernel_rfl) (by kernel_rfl) (by kernel_rfl) (fun _ _ _ h => h) S8.out.1.cp (Or.inl ⟨by rfl, fun w hw => by have c := hw; go_simp; try (with_reducible rfl)⟩) ?_
        simp only [Act.put, List.setIfInBounds_toArray, List.set_cons_zero, List.set_cons_succ]
        refine tk1 (v := .pointer (some ⟨bp, 0, none⟩)) (by kernel_rfl) (by kernel_rfl) (by kernel_rfl) (fun _ _ _ h => h) S8.out.1.cp (Or.inl ⟨by rfl, fun w hw => by have c := hw; go_simp; try (with_reducible rfl)⟩) ?_
        simp only [Act.put, List.setIfInBounds_toArray, List.set_cons_zero, List.set_cons_succ]
        refine tk3 (v := .func (.func 17) #[] #[.pointer (some ⟨gm, 0, none⟩), .pointer (some ⟨gx, 0, none⟩), .pointer (some ⟨gi, 0, none⟩), .pointer (some ⟨gp, 0, none⟩), .pointer (some ⟨gf, 0, none⟩)]) (by kernel_rfl) (by kernel_rfl) (by kernel_rfl) (fun _ _ _ h => h) S8.out.1.cp (Or.inl ⟨by rfl, fun w hw => by go_simp; try exact hmf _ _ _ _; try (with_reducible rfl)⟩) ?_
        simp only [Act.put, List.setIfInBounds_toArray, List.set_cons_zero, List.set_cons_succ]
        refine wpAnyH_ready (rs := [2]) (by kernel_rfl) (by simp) ?_
        refine rd2 (fun K hK => ?_) AllReadyH.nil
        go_simp
        refine CO.out.mono ?_
        rintro e w9 ⟨rfl, rfl⟩
        simp only []
        refine hK.out _ _ S8.out.1.cp (fun _ => ?_)
        clear hK K CO
        refine wpAnyH_ready (rs := [4]) (by kernel_rfl) (by simp) ?_
        refine rd4 (fun K hK => ?_) AllReadyH.nil
        go_simp
        refine CT.out.mono ?_
        rintro e w10 ⟨rfl, pT, mT, kT⟩
        simp only []
        have S10 : Hid (ImS W w10 (Own8 a bm bv gm gp gf gi gx) bp a bm bv gm gp gf ao2 fl cap2 (if f then L0 else upS L0 1 (mintL (L0 1) 0 2 1)) (if f then N else N.set 1 (s + 1)) (if f then L else putL kyInt x i L) L (if f then s else s + 1) (i + 1) ∧ w10.cell? ⟨gi, 0, none⟩ = some (.int .i64 i) ∧ w10.cell? ⟨gx, 0, none⟩ = some (.int .i64 x)) := by
          have hne := S8.out.1.map
          refine hide ⟨?_, (kT.cell ⟨by simp [Own8], (mne hne S8.out.2.1).symm⟩).trans S8.out.2.1, (kT.cell ⟨by simp [Own8], (mne hne S8.out.2.2).symm⟩).trans S8.out.2.2⟩
          have S8' := S8.out.1.more (Nat.le_succ i)
          have hlN := S8.out.1.pq.nl
          have hs := S8.out.1.s
          cases f with
          | true => exact S8'.tried pT mT kT S8'.srt S8'.len S8'.b S8'.u S8'.n S8'.s
          | false => exact S8'.tried pT mT kT (S8'.srt.put kyInt) (by have := putL_length kyInt (k := x) (v := (i : Int)) (L := L); have := S8.out.1.len; simp only [Bool.false_eq_true, if_false]; omega) HM1.out.2.1 HM1.out.2.2 (by simp only [Bool.false_eq_true, if_false]; rw [List.getElem?_set_self (by omega)]) (by simp only [Bool.false_eq_true, if_false]; omega)
        clear pT mT kT S8 CT HM1
        refine hK.out _ _ S10.out.1.cp (fun _ => ?_)
        clear hK K
        obtain ⟨E, hE⟩ : ∃ E : Int, (if f = true then 11 else 0) = E := ⟨_, rfl⟩
        rw [hE]
        refine tk5 (v := .int .i64 E) (by kernel_rfl) (by kernel_rfl) (by kernel_rfl) (fun _ _ _ h => h) S10.out.1.cp (Or.inl ⟨by rfl, fun w hw => by go_simp; try (with_reducible rfl)⟩) ?_
        simp only [Act.put, List.setIfInBounds_toArray, List.set_cons_zero, List.set_cons_succ]
        refine wpAnyH_done (by kernel_rfl) ?_ _
        have hcf := S10.out.1.cf
        have hci := S10.out.2.1
        obtain ⟨b2, off2, rfl, lb2, cb2⟩ := HV.out.2.got S10.out.1.pq.be (tV_get hf)
        cases f with
        | true =>
          obtain rfl : 11 = E := hE
          have T0 := hide S10.out
          simp only [if_true] at T0
          clear S10
          have hw1 : IntKind.i64.wrap ((i : Int) + 1) = (i : Int) + 1 := by rw [IntKind.wrap_i64]; omega
          have T := hide (And.intro T0.out.1 T0.out.2.2)
          have HG := hide (Im.get_any T.out.1.box.c2 T.out.1.map T.out.1.srt hxw)
          have hcm := T.out.1.cm
          have hcx := T.out.2
          go_wp2_with fail
          refine HG.out.mono ?_
          clear HG hcm hcx hcf hci cb2
          rintro e w12 ⟨rfl, hb12⟩
          have T2 := hide (And.intro (T.out.1.after hb12) (((bcell hb12).1 _ _ (cell_lt T.out.2)).trans T.out.2))
          clear T hb12
          have hcm := T2.out.1.cm
          have hcx := T2.out.2
          have hcp := T2.out.1.cp
          have hlk := val_look T2.out.1.val T2.out.1.srt hxw
          have hvl := val_len T2.out.1.val
          have HL := hide (Im.mlen_any T2.out.1.box.c2 T2.out.1.map)
          obtain ⟨bj, bb, Fr', cbk, BB, _, _⟩ := T2.out.1.pq.side (s := 1) (by omega)
          have HB := hide (book14_any (s := 1) (by omega) cbk)
          have hbl := balance_l BB (t := 0) (p := 2) (by omega) (by omega)
          obtain ⟨l0, l1, l2, l3⟩ := lm_small (s := s) (by have := T2.out.1.s; omega)
          rw [T2.out.1.b] at hbl
          simp only [big, l0, l1, l2, l3] at hbl
          have HBL := hide hbl
          have e44 : ∀ w, (Op.equalIn 10000 55 (.agg #[.int .u64 (s), .int .u64 0, .int .u64 0, .int .u64 0]) (.agg #[.int .u64 (s), .int .u64 0, .int .u64 0, .int .u64 0])).run Try.prog w = .ok true w := fun w => by rw [eqInt]; simp [same4]
          obtain ⟨FB, hFB⟩ : ∃ FB, Im.fh x (L) = FB := ⟨_, rfl⟩
          obtain ⟨FV, hFV⟩ : ∃ FV, Im.fv x (L) = FV := ⟨_, rfl⟩
          obtain ⟨LN, hLN⟩ : ∃ LN : Nat, (L).length = LN := ⟨_, rfl⟩
          rw [hFB, hFV] at hlk
          rw [hFB, hFV]
          rw [hLN] at HL
          simp only [hLN] at hvl
          clear hbl cbk BB hFB hFV hLN l0 l1 l2 l3
          go_wp2_with fail
          refine HL.out.mono ?_
          clear HL
          rintro e w13 ⟨rfl, rfl⟩
          go_wp2_with fail
          refine HB.out.mono ?_
          clear HB
          rintro e w14 ⟨rfl, rfl⟩
          go_wp2_with fail
          refine HBL.out.mono ?_
          clear HBL
          rintro e w15 ⟨rfl, hb15⟩
          have T3 := hide (T2.out.1.after hb15).drop
          clear T2 hb15 hcm hcx hcp hlk hvl
          go_wp2
          go_roundw
          case rel => exact ⟨i + 1, _, _, _, _, by omega, by simp, rfl, T3.out⟩
          case measure => simp [intOf]; omega
        | false =>
          obtain rfl : 0 = E := hE
          have T0 := hide S10.out
          simp only [Bool.false_eq_true, if_false] at T0
          clear S10
          have hw1 : IntKind.i64.wrap ((i : Int) + 1) = (i : Int) + 1 := by rw [IntKind.wrap_i64]; omega
          have hw2 : IntKind.u64.wrap (s + 1) = s + 1 := by have := T0.out.1.s; rw [IntKind.wrap_u64]; omega
          obtain ⟨w11, hput, v11, g11⟩ := val_put (k := x) (v := (i : Int)) T0.out.1.val T0.out.1.srtM (by have := T0.out.1.lenM; omega) hxw
          have hcx0 := T0.out.2.2
          have T := hide (And.intro (T0.out.1.valued v11 g11 (T0.out.1.srtM.put kyInt) (by have := T0.out.1.len; omega)) ((World.cell?_of_block (w := w10) (a := ⟨gx, 0, none⟩) (g11.block _ (cell_lt hcx0) fun e => (val_ne T0.out.1.val hcx0) (by cases e; rfl))).trans hcx0))
          have HG := hide (Im.get_any T.out.1.box.c2 T.out.1.map T.out.1.srt hxw)
          have hcm := T.out.1.cm
          have hcx := T.out.2
          clear v11 g11 T0
          go_wp2_with fail
          refine HG.out.mono ?_
          clear HG hcm hcx hcf hci cb2 hcx0 hput
          rintro e w12 ⟨rfl, hb12⟩
          have T2 := hide (And.intro (T.out.1.after hb12) (((bcell hb12).1 _ _ (cell_lt T.out.2)).trans T.out.2))
          clear T hb12
          have hcm := T2.out.1.cm
          have hcx := T2.out.2
          have hcp := T2.out.1.cp
          have hlk := val_look T2.out.1.val T2.out.1.srt hxw
          have hvl := val_len T2.out.1.val
          have HL := hide (Im.mlen_any T2.out.1.box.c2 T2.out.1.map)
          obtain ⟨bj, bb, Fr', cbk, BB, _, _⟩ := T2.out.1.pq.side (s := 1) (by omega)
          have HB := hide (book14_any (s := 1) (by omega) cbk)
          have hbl := balance_l BB (t := 0) (p := 2) (by omega) (by omega)
          obtain ⟨l0, l1, l2, l3⟩ := lm_small (s := s + 1) (by have := T2.out.1.s; omega)
          rw [T2.out.1.b] at hbl
          simp only [big, l0, l1, l2, l3] at hbl
          have HBL := hide hbl
          have e44 : ∀ w, (Op.equalIn 10000 55 (.agg #[.int .u64 (s + 1), .int .u64 0, .int .u64 0, .int .u64 0]) (.agg #[.int .u64 (s + 1), .int .u64 0, .int .u64 0, .int .u64 0])).run Try.prog w = .ok true w := fun w => by rw [eqInt]; simp [same4]
          obtain ⟨FB, hFB⟩ : ∃ FB, Im.fh x (putL kyInt x (i : Int) L) = FB := ⟨_, rfl⟩
          obtain ⟨FV, hFV⟩ : ∃ FV, Im.fv x (putL kyInt x (i : Int) L) = FV := ⟨_, rfl⟩
          obtain ⟨LN, hLN⟩ : ∃ LN : Nat, (putL kyInt x (i : Int) L).length = LN := ⟨_, rfl⟩
          rw [hFB, hFV] at hlk
          rw [hFB, hFV]
          rw [hLN] at HL
          simp only [hLN] at hvl
          clear hbl cbk BB hFB hFV hLN l0 l1 l2 l3
          go_wp2_with fail
          refine HL.out.mono ?_
          clear HL
          rintro e w13 ⟨rfl, rfl⟩
          go_wp2_with fail
          refine HB.out.mono ?_
          clear HB
          rintro e w14 ⟨rfl, rfl⟩
          go_wp2_with fail
          refine HBL.out.mono ?_
          clear HBL
          rintro e w15 ⟨rfl, hb15⟩
          have T3 := hide (T2.out.1.after hb15).drop
          clear T2 hb15 hcm hcx hcp hlk hvl
          go_wp2
          go_roundw
          case rel => exact ⟨i + 1, _, _, _, _, by omega, by simp, rfl, T3.out⟩
          case measure => simp [intOf]; omega
      · obtain rfl : i = l.length := by omega
        have HE := hide hn.pq.be
        clear hn
        go_wp2
        go_ret
        exact ⟨rfl, HE.out⟩
end Go.Proofs.Ytncnilplmklccaa
