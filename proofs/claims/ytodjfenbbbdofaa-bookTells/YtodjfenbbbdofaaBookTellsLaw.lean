/- BookTells: all balances that are not nought are told, each once, in order (gen-booktells.py). -/
import Derived.Test.YtodjfenbbbdofaaBkLaw2
import Derived.Test.YtodjfenbbbdofaaBkTells
import Derived.Test.YtodjfenbbbdofaaFrameBk
import Derived.Test.YtodjfenbbbdofaaHandIn
import Derived.Deep.RegionHeld3
namespace Go.Proofs.Ytodjfenbbbdofaa
set_option linter.unusedSimpArgs false
set_option linter.unusedVariables false
open Go.RowKit Go.Lib Go.Shelf
attribute [local go_sem] setCell_drewN alloc_drewN Oper.semAt_some eqInt

theorem ball_l {W w : World} {bj bb n : Nat} {h : Nat → Kvs} {Fr : Nat → Prop} (B : BS W w bj bb n h Fr) (hn : n ≤ 10000) :
    Calls Try.prog 20 #[.pointer (some ⟨bb, 0, none⟩)] w fun e w' => ∃ gb, e = .returned (.func (.func 53) #[] #[.pointer (some ⟨gb, 0, none⟩)]) ∧ It w' w.heap.size w'.heap.size gb (h n) ∧ Below w.heap.size w w' := by
  obtain ⟨S, b, _⟩ := B.ex
  exact ball_any b hn
theorem bbytes_l {W w : World} {bj bb n : Nat} {h : Nat → Kvs} {Fr : Nat → Prop} (B : BS W w bj bb n h Fr) (hn : n ≤ 10000) :
    Calls Try.prog 21 #[.pointer (some ⟨bb, 0, none⟩)] w fun e w' => ∃ v, e = .returned v ∧ Bs w' w.heap.size v (txt (h n)) ∧ Below w.heap.size w w' := by
  obtain ⟨S, b, _⟩ := B.ex
  exact bbytes_any b hn
/-- A function's value isn't nil. -/
theorem func_nilB (gb : Nat) (w : World) : (binOp .eql 57 (.func (.func 53) #[] #[.pointer (some ⟨gb, 0, none⟩)]) .nilFunc).run Try.prog w = .ok (.bool false) w := by kernel_rfl
set_option maxRecDepth 100000 in
set_option maxHeartbeats 1000000 in
theorem bookTells_walk (ao : Option Addr) (cap : Nat) (xs : List Ac) (most : Int) (W : World) (bs : xs.length ≤ cap ∧ cap ≤ maxLen ∧ Acs W ao xs ∧ ∀ x ∈ xs, Ac.Ok x) (wm : (Lit.int .i64 most).wf = true) :
    Calls Try.prog 5 #[.slice ao xs.length cap, .int .i64 most] W fun e w' => e = .returned (.bool true) ∧ Below W.heap.size W w' := by
  obtain ⟨hcap, hmax, hacs, hok⟩ := bs
  have HACS := hide hacs
  have HOK := hide hok
  clear hacs hok
  refine (callsIn_wide (n := 4)).1 ?_
  have hf0 : Fence.wide.fn 6 := trivial
  have hf1 : Fence.wide.fn 7 := trivial
  have hf2 : Fence.wide.fn 15 := trivial
  have hf3 : Fence.wide.fn 18 := trivial
  have hf4 : Fence.wide.fn 20 := trivial
  have hf5 : Fence.wide.fn 12 := trivial
  have hf6 : Fence.wide.fn 21 := trivial
  have hro : Fence.wide.round = none := rfl
  have hmix : Try.prog.follows .mixedOrders = true := by kernel_rfl
  refine callsIn_of_wp_marks Try.func5 rfl trivial ?_ rfl
  simp only [Try.ntmps5, List.size_toArray, List.length_cons, List.length_nil, Nat.reduceAdd, Nat.reduceSub, Array.replicate_succ, Array.replicate_zero, List.push_toArray, List.append_toArray, List.nil_append, List.cons_append]
  obtain ⟨W2, hW2⟩ : ∃ W2, (W.alloc (.cells #[.int .i64 most] 3)).alloc (.cells #[.bool false] 4) = W2 := ⟨_, rfl⟩
  obtain ⟨g, hg⟩ : ∃ g, W.heap.size = g := ⟨_, rfl⟩
  have BW2 : Hid (Below W.heap.size W W2) := by rw [← hW2]; exact bAl (bAl (bMe W))
  have cm : Hid (W2.cell? ⟨g, 0, none⟩ = some (.int .i64 most)) := by rw [← hW2, ← hg]; exact hide (by simp [go_sem])
  have cr : Hid (W2.cell? ⟨g + 1, 0, none⟩ = some (.bool false) ∧ W2.frozen? ⟨g + 1, 0, none⟩ = false) := by rw [← hW2, ← hg]; exact hide (by simp [go_sem])
  have hz2 : Hid (W2.heap.size = g + 2) := by rw [← hW2, ← hg]; exact hide (by simp)
  have HG := hide hg
  by_cases hlen : 40 < xs.length
  · have hll : (40 : Int) < (xs.length : Int) := by omega
    gi_wp2_with fail
    try rw [hW2]
    try rw [hg]
    clear hW2 hg
    refine (callsIn_wide.2 (lives13_any W2)).mono ?_
    rintro e w1 ⟨rfl, hb1⟩
    have HB1 := hide hb1
    clear hb1
    gi_wp2_with fail
    refine (callsIn_wide.2 (lives13_any w1)).mono ?_
    rintro e w2 ⟨rfl, hb2⟩
    have hb12 := bOn HB1.out hb2
    have r1 := ((bcell hb12).1 (g + 1) 0 (by have := hz2.out; omega)).trans cr.out.1
    have r2 := ((bcell hb12).2 (g + 1) 0 (by have := hz2.out; omega)).trans cr.out.2
    have HB2 := hide (bOn BW2.out hb12)
    have HL2 := hide (Nat.lt_of_lt_of_le (show g + 1 < W2.heap.size by have := hz2.out; omega) hb12.size)
    clear hb2 hb12
    gi_wp2
    have B3 : Below W.heap.size W (w2.setCell ⟨g + 1, 0, none⟩ (.bool true)) := HB2.out.setCell (p := ⟨g + 1, 0, none⟩) (by rw [HG.out]; simp) _
    exact ⟨.bool true, by simp [results, Try.results5, go_sem, r1], rfl, B3⟩
  · have hll : (xs.length : Int) ≤ 40 := by omega
    have hln : xs.length ≤ 40 := by omega
    gi_wp2_with fail
    try rw [hW2]
    try rw [hg]
    clear hW2 hg
    refine (callsIn_wide.2 (lives13_any W2)).mono ?_
    rintro e w1 ⟨rfl, hb1⟩
    have HB1 := hide hb1
    have C := hide (new_l (w := w1) (W := W) (bOn BW2.out hb1) (Fr := fun k => k = g ∨ k = g + 1) (fun k hk => by have := hb1.size; have := hz2.out; omega))
    have m1 := hide (((bcell hb1).1 g 0 (by have := hz2.out; omega)).trans cm.out)
    have r1 := hide (((bcell hb1).1 (g + 1) 0 (by have := hz2.out; omega)).trans cr.out.1)
    have f1 := hide (((bcell hb1).2 (g + 1) 0 (by have := hz2.out; omega)).trans cr.out.2)
    clear hb1 cm cr
    gi_wp2_with fail
    refine (callsIn_wide.2 C.out).mono ?_
    clear C
    rintro e w2 ⟨bb, rfl, hbb, b, kp⟩
    have kps := hide kp.1
    have m2 := hide ((kp.cell (o := 0) (.inl rfl)).trans m1.out)
    have r2 := hide ((kp.cell (o := 0) (.inr rfl)).trans r1.out)
    have f2 := hide ((kp.frozen (o := 0) (.inr rfl)).trans f1.out)
    have b3 := b.add (bAl (o := .cells #[.pointer (some ⟨bb, 0, none⟩)] 28) (bMe w2)) (g := w2.heap.size) (Nat.le_refl _) (by simp)
    have lb2 : Hid (bb < w2.heap.size) := by obtain ⟨S, q, _⟩ := b.ex; exact q.lt
    have kp3 := b.kp (bAl (o := .cells #[.pointer (some ⟨bb, 0, none⟩)] 28) (bMe w2))
    obtain ⟨g2, hg2⟩ : ∃ g2, w2.heap.size = g2 := ⟨_, rfl⟩
    obtain ⟨w3, hw3⟩ : ∃ w3, w2.alloc (.cells #[.pointer (some ⟨bb, 0, none⟩)] 28) = w3 := ⟨_, rfl⟩
    have p3 : w3.cell? ⟨g2, 0, none⟩ = some (.pointer (some ⟨bb, 0, none⟩)) := by rw [← hw3, ← hg2]; simp [go_sem]
    rw [hw3] at b3 kp3
    rw [hg2] at b3 lb2
    -- what the first loop holds
    have H0 : Hid (∃ n h, BS W w3 w1.heap.size bb n h (fun k => (k = g ∨ k = g + 1) ∨ k = g2) ∧ n ≤ 4 * 0 ∧ w3.cell? ⟨g, 0, none⟩ = some (.int .i64 most) ∧ w3.cell? ⟨g + 1, 0, none⟩ = some (.bool false) ∧ w3.frozen? ⟨g + 1, 0, none⟩ = false ∧ w3.cell? ⟨g2, 0, none⟩ = some (.pointer (some ⟨bb, 0, none⟩))) :=
      ⟨0, _, b3, Nat.le_refl _, (kp3.cell (.inl rfl)).trans m2.out, (kp3.cell (.inr rfl)).trans r2.out, (kp3.frozen (.inr rfl)).trans f2.out, p3⟩
    clear b kp b3 kp3 p3 m1 r1 f1 m2 r2 f2
    gi_wp2
    try rw [hw3]
    try rw [hg2]
    have hg2' : Hid (g + 2 ≤ g2) := by rw [← hg2]; have := hz2.out; have := HB1.out.size; have := kps.out; exact hide (by omega)
    clear hw3 hg2
    gi_loopw [28] (fun q wr => ∃ i : Nat, i ≤ xs.length ∧ q = .int .i64 i ∧ ∃ n h, BS W wr w1.heap.size bb n h (fun k => (k = g ∨ k = g + 1) ∨ k = g2) ∧ n ≤ 4 * i ∧ wr.cell? ⟨g, 0, none⟩ = some (.int .i64 most) ∧ wr.cell? ⟨g + 1, 0, none⟩ = some (.bool false) ∧ wr.frozen? ⟨g + 1, 0, none⟩ = false ∧ wr.cell? ⟨g2, 0, none⟩ = some (.pointer (some ⟨bb, 0, none⟩))) (fun q _ => xs.length - (intOf q).toNat)
    case atStart => exact ⟨0, by omega, rfl, H0.out⟩
    case round =>
      obtain ⟨i, hi, rfl, n, hh, hb, hn, c0, c1, c2, c3⟩ := hrel
      have HBs := hide hb
      have HC := hide (And.intro c0 (And.intro c1 (And.intro c2 c3)))
      clear H0
      by_cases hlt : i < xs.length
      · have hlt' : (i : Int) < (xs.length : Int) := by omega
        obtain ⟨x, hx⟩ : ∃ x, xs[i]? = some x := ⟨xs[i], List.getElem?_eq_getElem hlt⟩
        have hxo := HOK.out x (List.mem_of_getElem? hx)
        obtain ⟨b, off, rfl, a0, a1, a2, a3, a4, a5, a6, a7⟩ := HACS.out.got hb.be hx
        clear hx hb c0 c1 c2
        -- the act's box
        obtain ⟨ga, hga⟩ : ∃ ga, wr.heap.size = ga := ⟨_, rfl⟩
        obtain ⟨w4, hw4⟩ : ∃ w4, wr.alloc (.cells #[.int .u8 x.k, .int .u8 x.t, .int .u8 x.f, .int .u8 x.o, .int .u64 (lm x.n 0), .int .u64 (lm x.n 1), .int .u64 (lm x.n 2), .int .u64 (lm x.n 3)] 38) = w4 := ⟨_, rfl⟩
        have b4 : BS W w4 w1.heap.size bb n hh (fun k => ((k = g ∨ k = g + 1) ∨ k = g2) ∨ k = ga) := by rw [← hw4, ← hga]; exact HBs.out.add (bAl (bMe wr)) (Nat.le_refl _) (by simp)
        have k4 : Kp (fun k => (k = g ∨ k = g + 1) ∨ k = g2) wr w4 := by rw [← hw4]; exact HBs.out.kp (bAl (bMe wr))
        have x4 : w4.cell? ⟨ga, 0, none⟩ = some (.int .u8 x.k) ∧ w4.cell? ⟨ga, 1, none⟩ = some (.int .u8 x.t) ∧ w4.cell? ⟨ga, 2, none⟩ = some (.int .u8 x.f) ∧ w4.cell? ⟨ga, 3, none⟩ = some (.int .u8 x.o) ∧ w4.cell? ⟨ga, 4, none⟩ = some (.int .u64 (lm x.n 0)) ∧ w4.cell? ⟨ga, 5, none⟩ = some (.int .u64 (lm x.n 1)) ∧ w4.cell? ⟨ga, 6, none⟩ = some (.int .u64 (lm x.n 2)) ∧ w4.cell? ⟨ga, 7, none⟩ = some (.int .u64 (lm x.n 3)) := by rw [← hw4, ← hga]; simp [go_sem]
        have p4 := (k4.cell (o := 0) (.inr rfl)).trans HC.out.2.2.2
        obtain ⟨d0, d1, d2, d3, d4, d5, d6, d7⟩ := x4
        have X4 := hide (And.intro d1 (And.intro d2 (And.intro d3 (And.intro d4 (And.intro d5 (And.intro d6 d7))))))
        have K4 := hide k4
        have t0 := hxo.t; have f0 := hxo.f; have o0 := hxo.o
        have C := hide (mint_l (t := x.t % 4) (p := x.f % 18) b4 (by omega) (by omega) hxo.n (by omega))
        have hmm := hide hga
        clear k4 b4 c3
        gi_wp2_with fail
        refine (callsIn_wide.2 C.out).mono ?_
        clear C
        rintro e w5 ⟨rfl, n', h', b5, k5, x5⟩
        have fa : (fun k => ((k = g ∨ k = g + 1) ∨ k = g2) ∨ k = ga) ga := .inr rfl
        have e0 := (k5.cell (o := 0) (.inl (.inr rfl))).trans p4
        obtain ⟨d1, d2, d3, d4, d5, d6, d7⟩ := X4.out
        replace d1 := (k5.cell (o := 1) fa).trans d1
        replace d2 := (k5.cell (o := 2) fa).trans d2
        replace d3 := (k5.cell (o := 3) fa).trans d3
        replace d4 := (k5.cell (o := 4) fa).trans d4
        replace d5 := (k5.cell (o := 5) fa).trans d5
        replace d6 := (k5.cell (o := 6) fa).trans d6
        replace d7 := (k5.cell (o := 7) fa).trans d7
        have C := hide (move_l (t := x.t % 4) (p := x.f % 18) (q := x.o % 18) b5 (by omega) (by omega) (by omega) hxo.n (by have := x5.up; omega))
        have K5 := hide k5
        have X5 := hide x5
        clear k5 x5 b5 d0 p4
        gi_wp2_with fail
        refine (callsIn_wide.2 C.out).mono ?_
        clear C
        rintro e w6 ⟨rfl, n'', h'', b6, k6, x6⟩
        have T : Hid (∃ n h, BS W w6 w1.heap.size bb n h (fun k => (k = g ∨ k = g + 1) ∨ k = g2) ∧ n ≤ 4 * (i + 1) ∧ w6.cell? ⟨g, 0, none⟩ = some (.int .i64 most) ∧ w6.cell? ⟨g + 1, 0, none⟩ = some (.bool false) ∧ w6.frozen? ⟨g + 1, 0, none⟩ = false ∧ w6.cell? ⟨g2, 0, none⟩ = some (.pointer (some ⟨bb, 0, none⟩))) := by
          have y1 := X5.out.up
          have y2 := x6.up
          have q := HC.out
          have ca : ∀ k o, ((k = g ∨ k = g + 1) ∨ k = g2) → w6.cell? ⟨k, o, none⟩ = wr.cell? ⟨k, o, none⟩ := fun k o hk => (k6.cell (o := o) (.inl hk)).trans ((K5.out.cell (o := o) (.inl hk)).trans (K4.out.cell (o := o) hk))
          have cf : ∀ k o, ((k = g ∨ k = g + 1) ∨ k = g2) → w6.frozen? ⟨k, o, none⟩ = wr.frozen? ⟨k, o, none⟩ := fun k o hk => (k6.frozen (o := o) (.inl hk)).trans ((K5.out.frozen (o := o) (.inl hk)).trans (K4.out.frozen (o := o) hk))
          exact ⟨n'', h'', b6.sub (fun k hk => .inl hk), by omega, (ca _ _ (.inl (.inl rfl))).trans q.1, (ca _ _ (.inl (.inr rfl))).trans q.2.1, (cf _ _ (.inl (.inr rfl))).trans q.2.2.1, (ca _ _ (.inr rfl)).trans q.2.2.2⟩
        clear b6 k6 x6 d1 d2 d3 d4 d5 d6 d7 e0
        gi_wp2
        exact ⟨⟨i + 1, by omega, by simp, T.out⟩, by simp [intOf]; omega⟩
      · obtain rfl : i = xs.length := by omega
        have C := hide (ball_l hb (by omega))
        have hnn : n ≤ 160 := by omega
        clear c0 c1 c2 hb
        gi_wp2_with fail
        refine (callsIn_wide.2 C.out).mono ?_
        clear C
        rintro e w4 ⟨gb, rfl, hI, hb4⟩
        have HI := hide hI
        have HB4 := hide hb4
        clear hI hb4 c3 hn hlt
        have heq := fun (W : World) => func_nilB gb W
        -- the state ahead of the range
        obtain ⟨S, bS, hS1, hS2⟩ := HBs.out.ex
        obtain ⟨w5, hw5⟩ : ∃ w5, (w4.alloc (.cells #[.int .i64 (-1)] 3)).alloc (.cells #[.int .i64 0] 3) = w5 := ⟨_, rfl⟩
        obtain ⟨gt, hgt⟩ : ∃ gt, w4.heap.size = gt := ⟨_, rfl⟩
        have B5 : Below w4.heap.size w4 w5 := by rw [← hw5]; exact bAl (bAl (bMe w4))
        have hz5 : w5.heap.size = gt + 2 := by rw [← hw5, ← hgt]; simp
        have lS := bS.low
        have lbb := bS.lt
        have HGD := hide (bS.good n (Nat.le_refl n))
        have T5 : Hid (Ti W gt gt S w1.heap.size bb n hh g g2 most w5) := by
          have bw := bOn HB4.out B5
          have q := (bcell bw).1
          have c := HC.out
          have l2 := HBs.out.low g2 (.inr rfl)
          have l1 := HBs.out.low (g + 1) (.inl (.inr rfl))
          have lg := hg2'.out
          have hs := bw.size
          have hs4 := HB4.out.size
          rw [hgt] at hs4
          refine hide ⟨bS.below bw, (q g 0 (by omega)).trans c.1, (q _ 0 l1).trans c.2.1, ((bcell bw).2 _ 0 l1).trans c.2.2.1, (q _ 0 l2).trans c.2.2.2, bOn HBs.out.be bw, by omega, Nat.le_refl _, ⟨fun k hk => Nat.lt_of_lt_of_le (lS k hk) hs4, by omega, by omega, by omega, by rw [HG.out]; exact Nat.le_refl _⟩, ?_, ?_⟩
          · have := lb2.out; omega
          · have := hbb; have := HB1.out.size; have := hz2.out; omega
        have IA : Hid (IBox w5 gt (-1)) := by
          rw [← hw5, ← hgt]
          exact hide ((Below.heap_alloc _ _ _ (by simp)).trans (World.alloc_heap_new w4 _))
        have IC : Hid (IBox w5 (gt + 1) 0) := by
          rw [← hw5, ← hgt]
          have := World.alloc_heap_new (w4.alloc (.cells #[.int .i64 (-1)] 3)) (.cells #[.int .i64 0] 3)
          rw [World.size_alloc] at this
          exact hide this
        have I5 := hide (HI.out.kept (KIv.below B5 (Nat.le_refl _)))
        rw [hgt] at I5
        have HN := hide hnn
        have hlen2 : (hh n).length ≤ 10000 := by have := HGD.out.2.1; omega
        have HZ5 := hide hz5
        have T0 : Hid (TI W gt S w1.heap.size bb n hh g g2 most (hh n) [] w5) := hide ⟨List.Pairwise.nil, T5.out, IA.out, IC.out⟩
        have hgt' := hide hgt
        have hw5' := hide hw5
        clear lS lbb B5 hz5 hS1 hS2 bS T5 IA IC hgt hw5
        gi_wp2
        rw [hw5'.out, hgt'.out]
        clear hw5' heq
        refine range_boxed (n := 4) (L := hh n) (gb := gb) (lo := wr.heap.size) (hi := gt) (w := w5) ?_ 11 12 ?_ ?_ ?_ ?_ (TI W gt S w1.heap.size bb n hh g g2 most (hh n)) (TX (hh n)) ?_ ?_ ?_ ?_ ?_ ?_ ?_
        · omega
        · rfl
        · omega
        · exact I5.out
        · rw [HZ5.out]; omega
        · exact TI.own (by rw [HZ5.out]; exact Nat.le_refl _)
        · exact fun c => TX.own c _
        · exact T0.out
        · intro l pre x W' K hI hK
          have HK := hide hK
          have HI' := hide hI
          clear hK hI
          gi_wp2
          have hI := HI'.out
          have hs := hI.2.2.2.cell.2.2
          have hO := TI.own (W0 := W) (gt := gt) (S := S) (bj := w1.heap.size) (bb := bb) (n := n) (h := hh) (g := g) (g2 := g2) (most := most) (L := hh n) (B := w5.heap.size) (by rw [HZ5.out]; exact Nat.le_refl _)
          refine HK.out _ _ _ (((KeepsOthers.alloc W' _).trans (KeepsOthers.alloc _ _)).from _) ?_ (hO.alloc _ (hO.alloc _ hI)) (Bx2.new W' x.1 (by rw [HZ5.out]; omega))
          exact fun k h1 h2 => (Below.heap_alloc _ _ _ (by simp; omega)).trans (Below.heap_alloc _ _ _ (by omega))
        · intro l pre x kb vb W' hI hx hl
          have HI' := hide hI
          have hkin := HGD.out.1.kin _ x.2
          have hnz := HGD.out.1.non _ x.2
          have hbal := HGD.out.1.bal x.2
          obtain ⟨⟨k0, k1⟩, v0, v1, v2, v3⟩ := hx.cells
          obtain ⟨hr, ht, ha, hc⟩ := hI
          obtain ⟨a0, a1, a2⟩ := ha.cell
          obtain ⟨n0, n1, n2⟩ := hc.cell
          have p0 := ht.c2
          have q0 := ht.c1
          have q1 := ht.f1
          clear hr ht ha hc
          obtain ⟨⟨hk0, hk1⟩, hk2, hk3⟩ := hkin
          generalize hla : lastI (pre.map (·.1)) = la at *
          have lkb : kb < W'.heap.size := (Array.getElem?_eq_some_iff.1 hx.2.1).1
          have lvb : vb < W'.heap.size := (Array.getElem?_eq_some_iff.1 hx.2.2).1
          have lg2 : g2 < W'.heap.size := by have := HI'.out.2.1.lo; have := HI'.out.2.1.sz; omega
          have lg1 : g + 1 < W'.heap.size := by have := HI'.out.2.1.lo; omega
          have LL := hide (And.intro lkb (And.intro lvb (And.intro lg2 (And.intro lg1 (And.intro a2 n2)))))
          clear lkb lvb lg2 lg1 a2 n2 hx
          have h72 : ¬ 72 ≤ 18 * x.1.1.1 + x.1.1.2 := by omega
          have hs0 : same4 (lm x.1.2.1 0) (lm x.1.2.1 1) (lm x.1.2.1 2) (lm x.1.2.1 3) 0 0 0 0 = false := by have := big_eq x.1.2.2 In.zero; rw [lm_zero, lm_zero, lm_zero, lm_zero] at this; rw [this]; simp [hnz]
          have hs1 : same4 (lm x.1.2.1 0) (lm x.1.2.1 1) (lm x.1.2.1 2) (lm x.1.2.1 3) (lm x.1.2.1 0) (lm x.1.2.1 1) (lm x.1.2.1 2) (lm x.1.2.1 3) = true := by unfold same4; simp
          by_cases hle : 18 * x.1.1.1 + x.1.1.2 ≤ la
          · gi_wp2
            have X : Hid (TC gt kb vb g2 bb la x.1 W'.drew) := hide ⟨a0, k0, k1, v0, v1, v2, v3, p0⟩
            refine wpIn_region_held_round (S := TC gt kb vb g2 bb la x.1) (by assumption) (by kernel_rfl) (fun ⟨_, _, h⟩ => h) X.out (fun _ => ?_)
            refine tk0 (v := .int .i64 (18 * x.1.1.1 + x.1.1.2)) (by kernel_rfl) (by kernel_rfl) (by kernel_rfl) (fun _ _ _ h => h) X.out (Or.inl ⟨by rfl, fun w hw => by go_simp; try (with_reducible rfl)⟩) ?_
            simp only [Act.put, List.setIfInBounds_toArray, List.set_cons_zero, List.set_cons_succ]
            refine tk1 (v := .int .i64 la) (by kernel_rfl) (by kernel_rfl) (by kernel_rfl) (fun _ _ _ h => h) X.out (Or.inl ⟨by rfl, fun w hw => by obtain ⟨h0, h1, h2, h3, h4, h5, h6, h7⟩ := hw; go_simp; try (with_reducible rfl)⟩) ?_
            simp only [Act.put, List.setIfInBounds_toArray, List.set_cons_zero, List.set_cons_succ]
            refine tk2 (v := .bool true) (by kernel_rfl) (by kernel_rfl) (by kernel_rfl) (fun _ _ _ h => h) X.out (Or.inl ⟨by rfl, fun w hw => by go_simp; try (with_reducible rfl)⟩) ?_
            simp only [Act.put, List.setIfInBounds_toArray, List.set_cons_zero, List.set_cons_succ]
            refine tk3 (v := .bool true) (by kernel_rfl) (by kernel_rfl) (by kernel_rfl) (fun _ _ _ h => h) X.out (Or.inl ⟨by rfl, fun w hw => by go_simp; try (with_reducible rfl)⟩) ?_
            simp only [Act.put, List.setIfInBounds_toArray, List.set_cons_zero, List.set_cons_succ]
            refine tk4 (v := undef) (by kernel_rfl) (by kernel_rfl) (by kernel_rfl) (fun _ _ _ h => h) X.out (Or.inr ⟨by rfl, rfl⟩) ?_
            simp only [Act.put, List.setIfInBounds_toArray, List.set_cons_zero, List.set_cons_succ]
            refine tk5 (v := undef) (by kernel_rfl) (by kernel_rfl) (by kernel_rfl) (fun _ _ _ h => h) X.out (Or.inr ⟨by rfl, rfl⟩) ?_
            simp only [Act.put, List.setIfInBounds_toArray, List.set_cons_zero, List.set_cons_succ]
            refine tk6 (v := .bool true) (by kernel_rfl) (by kernel_rfl) (by kernel_rfl) (fun _ _ _ h => h) X.out (Or.inl ⟨by rfl, fun w hw => by go_simp; try (with_reducible rfl)⟩) ?_
            simp only [Act.put, List.setIfInBounds_toArray, List.set_cons_zero, List.set_cons_succ]
            refine tk7 (v := .bool true) (by kernel_rfl) (by kernel_rfl) (by kernel_rfl) (fun _ _ _ h => h) X.out (Or.inl ⟨by rfl, fun w hw => by go_simp; try (with_reducible rfl)⟩) ?_
            simp only [Act.put, List.setIfInBounds_toArray, List.set_cons_zero, List.set_cons_succ]
            refine tk8 (v := undef) (by kernel_rfl) (by kernel_rfl) (by kernel_rfl) (fun _ _ _ h => h) X.out (Or.inr ⟨by rfl, rfl⟩) ?_
            simp only [Act.put, List.setIfInBounds_toArray, List.set_cons_zero, List.set_cons_succ]
            refine tk9 (v := undef) (by kernel_rfl) (by kernel_rfl) (by kernel_rfl) (fun _ _ _ h => h) X.out (Or.inr ⟨by rfl, rfl⟩) ?_
            simp only [Act.put, List.setIfInBounds_toArray, List.set_cons_zero, List.set_cons_succ]
            refine tk10 (v := undef) (by kernel_rfl) (by kernel_rfl) (by kernel_rfl) (fun _ _ _ h => h) X.out (Or.inr ⟨by rfl, rfl⟩) ?_
            simp only [Act.put, List.setIfInBounds_toArray, List.set_cons_zero, List.set_cons_succ]
            refine tk11 (v := .bool true) (by kernel_rfl) (by kernel_rfl) (by kernel_rfl) (fun _ _ _ h => h) X.out (Or.inl ⟨by rfl, fun w hw => by go_simp; try (with_reducible rfl)⟩) ?_
            simp only [Act.put, List.setIfInBounds_toArray, List.set_cons_zero, List.set_cons_succ]
            refine tk12 (v := .bool true) (by kernel_rfl) (by kernel_rfl) (by kernel_rfl) (fun _ _ _ h => h) X.out (Or.inl ⟨by rfl, fun w hw => by go_simp; try (with_reducible rfl)⟩) ?_
            simp only [Act.put, List.setIfInBounds_toArray, List.set_cons_zero, List.set_cons_succ]
            refine tk13 (v := undef) (by kernel_rfl) (by kernel_rfl) (by kernel_rfl) (fun _ _ _ h => h) X.out (Or.inr ⟨by rfl, rfl⟩) ?_
            simp only [Act.put, List.setIfInBounds_toArray, List.set_cons_zero, List.set_cons_succ]
            refine tk14 (v := undef) (by kernel_rfl) (by kernel_rfl) (by kernel_rfl) (fun _ _ _ h => h) X.out (Or.inr ⟨by rfl, rfl⟩) ?_
            simp only [Act.put, List.setIfInBounds_toArray, List.set_cons_zero, List.set_cons_succ]
            refine tk15 (v := undef) (by kernel_rfl) (by kernel_rfl) (by kernel_rfl) (fun _ _ _ h => h) X.out (Or.inr ⟨by rfl, rfl⟩) ?_
            simp only [Act.put, List.setIfInBounds_toArray, List.set_cons_zero, List.set_cons_succ]
            refine tk16 (v := undef) (by kernel_rfl) (by kernel_rfl) (by kernel_rfl) (fun _ _ _ h => h) X.out (Or.inr ⟨by rfl, rfl⟩) ?_
            simp only [Act.put, List.setIfInBounds_toArray, List.set_cons_zero, List.set_cons_succ]
            refine tk17 (v := undef) (by kernel_rfl) (by kernel_rfl) (by kernel_rfl) (fun _ _ _ h => h) X.out (Or.inr ⟨by rfl, rfl⟩) ?_
            simp only [Act.put, List.setIfInBounds_toArray, List.set_cons_zero, List.set_cons_succ]
            refine tk18 (v := undef) (by kernel_rfl) (by kernel_rfl) (by kernel_rfl) (fun _ _ _ h => h) X.out (Or.inr ⟨by rfl, rfl⟩) ?_
            simp only [Act.put, List.setIfInBounds_toArray, List.set_cons_zero, List.set_cons_succ]
            refine tk19 (v := undef) (by kernel_rfl) (by kernel_rfl) (by kernel_rfl) (fun _ _ _ h => h) X.out (Or.inr ⟨by rfl, rfl⟩) ?_
            simp only [Act.put, List.setIfInBounds_toArray, List.set_cons_zero, List.set_cons_succ]
            refine tk20 (v := undef) (by kernel_rfl) (by kernel_rfl) (by kernel_rfl) (fun _ _ _ h => h) X.out (Or.inr ⟨by rfl, rfl⟩) ?_
            simp only [Act.put, List.setIfInBounds_toArray, List.set_cons_zero, List.set_cons_succ]
            refine tk21 (v := .bool true) (by kernel_rfl) (by kernel_rfl) (by kernel_rfl) (fun _ _ _ h => h) X.out (Or.inl ⟨by rfl, fun w hw => by go_simp; try (with_reducible rfl)⟩) ?_
            simp only [Act.put, List.setIfInBounds_toArray, List.set_cons_zero, List.set_cons_succ]
            refine wpAnyH_done (by kernel_rfl) ?_ _
            gi_wp2
            exact ⟨keeps_set _ _ _ _ _, by unfold TX; rw [List.map_append, List.map_cons, List.map_nil]; exact not_rising (by rw [hla]; exact hle) (by unfold idx; omega)⟩
          · have HB : Hid (Calls Try.prog 12 #[.pointer (some ⟨bb, 0, none⟩), .int .u8 x.1.1.1, .int .u8 x.1.1.2] W'.drew fun e w' => e = .returned (.agg #[.int .u64 (lm x.1.2.1 0), .int .u64 (lm x.1.2.1 1), .int .u64 (lm x.1.2.1 2), .int .u64 (lm x.1.2.1 3)]) ∧ Below W'.drew.heap.size W'.drew w') := by
              have q := balance_any (HI'.out.2.1.bk.below (bMe W').drew) (k := x.1.1) ⟨⟨hk0, by omega⟩, hk2, by omega⟩
              rw [hbal] at q
              exact hide q
            clear hbal
            gi_wp2
            have X : Hid (TC gt kb vb g2 bb la x.1 W'.drew) := hide ⟨a0, k0, k1, v0, v1, v2, v3, p0⟩
            refine wpIn_region_held_round (S := TC gt kb vb g2 bb la x.1) (by assumption) (by kernel_rfl) (fun ⟨_, _, h⟩ => h) X.out (fun _ => ?_)
            refine tk0 (v := .int .i64 (18 * x.1.1.1 + x.1.1.2)) (by kernel_rfl) (by kernel_rfl) (by kernel_rfl) (fun _ _ _ h => h) X.out (Or.inl ⟨by rfl, fun w hw => by go_simp; try (with_reducible rfl)⟩) ?_
            simp only [Act.put, List.setIfInBounds_toArray, List.set_cons_zero, List.set_cons_succ]
            refine tk1 (v := .int .i64 la) (by kernel_rfl) (by kernel_rfl) (by kernel_rfl) (fun _ _ _ h => h) X.out (Or.inl ⟨by rfl, fun w hw => by obtain ⟨h0, h1, h2, h3, h4, h5, h6, h7⟩ := hw; go_simp; try (with_reducible rfl)⟩) ?_
            simp only [Act.put, List.setIfInBounds_toArray, List.set_cons_zero, List.set_cons_succ]
            refine tk2 (v := .bool false) (by kernel_rfl) (by kernel_rfl) (by kernel_rfl) (fun _ _ _ h => h) X.out (Or.inl ⟨by rfl, fun w hw => by go_simp; try (with_reducible rfl)⟩) ?_
            simp only [Act.put, List.setIfInBounds_toArray, List.set_cons_zero, List.set_cons_succ]
            refine tk3 (v := .bool false) (by kernel_rfl) (by kernel_rfl) (by kernel_rfl) (fun _ _ _ h => h) X.out (Or.inl ⟨by rfl, fun w hw => by go_simp; try (with_reducible rfl)⟩) ?_
            simp only [Act.put, List.setIfInBounds_toArray, List.set_cons_zero, List.set_cons_succ]
            refine tk4 (v := .int .i64 (18 * x.1.1.1 + x.1.1.2)) (by kernel_rfl) (by kernel_rfl) (by kernel_rfl) (fun _ _ _ h => h) X.out (Or.inl ⟨by rfl, fun w hw => by go_simp; try (with_reducible rfl)⟩) ?_
            simp only [Act.put, List.setIfInBounds_toArray, List.set_cons_zero, List.set_cons_succ]
            refine tk5 (v := .bool false) (by kernel_rfl) (by kernel_rfl) (by kernel_rfl) (fun _ _ _ h => h) X.out (Or.inl ⟨by rfl, fun w hw => by go_simp; try (with_reducible rfl)⟩) ?_
            simp only [Act.put, List.setIfInBounds_toArray, List.set_cons_zero, List.set_cons_succ]
            refine tk6 (v := .bool false) (by kernel_rfl) (by kernel_rfl) (by kernel_rfl) (fun _ _ _ h => h) X.out (Or.inl ⟨by rfl, fun w hw => by go_simp; try (with_reducible rfl)⟩) ?_
            simp only [Act.put, List.setIfInBounds_toArray, List.set_cons_zero, List.set_cons_succ]
            refine tk7 (v := .bool false) (by kernel_rfl) (by kernel_rfl) (by kernel_rfl) (fun _ _ _ h => h) X.out (Or.inl ⟨by rfl, fun w hw => by go_simp; try (with_reducible rfl)⟩) ?_
            simp only [Act.put, List.setIfInBounds_toArray, List.set_cons_zero, List.set_cons_succ]
            refine tk8 (v := .agg #[.int .u64 (lm x.1.2.1 0), .int .u64 (lm x.1.2.1 1), .int .u64 (lm x.1.2.1 2), .int .u64 (lm x.1.2.1 3)]) (by kernel_rfl) (by kernel_rfl) (by kernel_rfl) (fun _ _ _ h => h) X.out (Or.inl ⟨by rfl, fun w hw => by obtain ⟨h0, h1, h2, h3, h4, h5, h6, h7⟩ := hw; go_simp; try (with_reducible rfl)⟩) ?_
            simp only [Act.put, List.setIfInBounds_toArray, List.set_cons_zero, List.set_cons_succ]
            refine tk9 (v := .agg #[.int .u64 0, .int .u64 0, .int .u64 0, .int .u64 0]) (by kernel_rfl) (by kernel_rfl) (by kernel_rfl) (fun _ _ _ h => h) X.out (Or.inl ⟨by rfl, fun w hw => by go_simp; try (with_reducible rfl)⟩) ?_
            simp only [Act.put, List.setIfInBounds_toArray, List.set_cons_zero, List.set_cons_succ]
            refine tk10 (v := .bool false) (by kernel_rfl) (by kernel_rfl) (by kernel_rfl) (fun _ _ _ h => h) X.out (Or.inl ⟨by rfl, fun w hw => by go_simp; try (with_reducible rfl)⟩) ?_
            simp only [Act.put, List.setIfInBounds_toArray, List.set_cons_zero, List.set_cons_succ]
            refine tk11 (v := .bool false) (by kernel_rfl) (by kernel_rfl) (by kernel_rfl) (fun _ _ _ h => h) X.out (Or.inl ⟨by rfl, fun w hw => by go_simp; try (with_reducible rfl)⟩) ?_
            simp only [Act.put, List.setIfInBounds_toArray, List.set_cons_zero, List.set_cons_succ]
            refine tk12 (v := .bool false) (by kernel_rfl) (by kernel_rfl) (by kernel_rfl) (fun _ _ _ h => h) X.out (Or.inl ⟨by rfl, fun w hw => by go_simp; try (with_reducible rfl)⟩) ?_
            simp only [Act.put, List.setIfInBounds_toArray, List.set_cons_zero, List.set_cons_succ]
            refine tk13 (v := .agg #[.int .u64 (lm x.1.2.1 0), .int .u64 (lm x.1.2.1 1), .int .u64 (lm x.1.2.1 2), .int .u64 (lm x.1.2.1 3)]) (by kernel_rfl) (by kernel_rfl) (by kernel_rfl) (fun _ _ _ h => h) X.out (Or.inl ⟨by rfl, fun w hw => by obtain ⟨h0, h1, h2, h3, h4, h5, h6, h7⟩ := hw; go_simp; try (with_reducible rfl)⟩) ?_
            simp only [Act.put, List.setIfInBounds_toArray, List.set_cons_zero, List.set_cons_succ]
            refine tk14 (v := .pointer (some ⟨bb, 0, none⟩)) (by kernel_rfl) (by kernel_rfl) (by kernel_rfl) (fun _ _ _ h => h) X.out (Or.inl ⟨by rfl, fun w hw => by obtain ⟨h0, h1, h2, h3, h4, h5, h6, h7⟩ := hw; go_simp; try (with_reducible rfl)⟩) ?_
            simp only [Act.put, List.setIfInBounds_toArray, List.set_cons_zero, List.set_cons_succ]
            refine tk15 (v := .pointer (some ⟨kb, 0, none⟩)) (by kernel_rfl) (by kernel_rfl) (by kernel_rfl) (fun _ _ _ h => h) X.out (Or.inl ⟨by rfl, fun w hw => by go_simp; try (with_reducible rfl)⟩) ?_
            simp only [Act.put, List.setIfInBounds_toArray, List.set_cons_zero, List.set_cons_succ]
            refine tk16 (v := .int .u8 x.1.1.1) (by kernel_rfl) (by kernel_rfl) (by kernel_rfl) (fun _ _ _ h => h) X.out (Or.inl ⟨by rfl, fun w hw => by obtain ⟨h0, h1, h2, h3, h4, h5, h6, h7⟩ := hw; go_simp; try (with_reducible rfl)⟩) ?_
            simp only [Act.put, List.setIfInBounds_toArray, List.set_cons_zero, List.set_cons_succ]
            refine tk17 (v := .pointer (some ⟨kb, 1, none⟩)) (by kernel_rfl) (by kernel_rfl) (by kernel_rfl) (fun _ _ _ h => h) X.out (Or.inl ⟨by rfl, fun w hw => by go_simp; try (with_reducible rfl)⟩) ?_
            simp only [Act.put, List.setIfInBounds_toArray, List.set_cons_zero, List.set_cons_succ]
            refine tk18 (v := .int .u8 x.1.1.2) (by kernel_rfl) (by kernel_rfl) (by kernel_rfl) (fun _ _ _ h => h) X.out (Or.inl ⟨by rfl, fun w hw => by obtain ⟨h0, h1, h2, h3, h4, h5, h6, h7⟩ := hw; go_simp; try (with_reducible rfl)⟩) ?_
            simp only [Act.put, List.setIfInBounds_toArray, List.set_cons_zero, List.set_cons_succ]
            refine wpAnyH_ready (rs := [19]) (by kernel_rfl) (by simp) ?_
            refine rd19 (fun K hK => ?_) AllReadyH.nil
            go_simp
            refine (HB.out).mono ?_
            rintro e w' ⟨rfl, hb⟩
            simp only []
            replace X := hide (X.out.after hb)
            have hb6 : Below W'.heap.size W' w' := bOn (bMe W').drew hb
            have q := (bcell hb6).1
            have q' := (bcell hb6).2
            have lgt := LL.out.2.2.2.2.1
            have lgc := LL.out.2.2.2.2.2
            have A6 := hide (And.intro ((q gt 0 lgt).trans a0) (And.intro ((q' gt 0 lgt).trans a1) (And.intro ((q (gt + 1) 0 lgc).trans n0) ((q' (gt + 1) 0 lgc).trans n1))))
            have T := TI.step (x := x) (B := w5.heap.size) (lo := wr.heap.size) HI'.out hb6 (by rw [HZ5.out]; exact Nat.le_refl _) (by rw [hla]; unfold idx; omega)
            unfold idx at T
            have T := hide T
            clear q q' lgt lgc hb6 hb HB
            refine hK.out _ _ X.out (fun _ => ?_)
            clear hK K
            refine tk20 (v := .bool false) (by kernel_rfl) (by kernel_rfl) (by kernel_rfl) (fun _ _ _ h => h) X.out (Or.inl ⟨by rfl, fun w hw => by go_simp; try (with_reducible rfl)⟩) ?_
            simp only [Act.put, List.setIfInBounds_toArray, List.set_cons_zero, List.set_cons_succ]
            refine tk21 (v := .bool false) (by kernel_rfl) (by kernel_rfl) (by kernel_rfl) (fun _ _ _ h => h) X.out (Or.inl ⟨by rfl, fun w hw => by go_simp; try (with_reducible rfl)⟩) ?_
            simp only [Act.put, List.setIfInBounds_toArray, List.set_cons_zero, List.set_cons_succ]
            refine wpAnyH_done (by kernel_rfl) ?_ _
            obtain ⟨a0', a1', n0', n1'⟩ := A6.out
            clear X A6
            gi_wp2
            exact T.out
        · intro D xs1 W' hD hxs hI hdf
          obtain ⟨hr, ht, ha, hc⟩ := hI
          have hxl : xs1.length = (hh n).length := by have e := congrArg List.length hxs; rw [List.length_map] at e; exact e
          rw [hxl] at hc
          have T6 := ht.below (bAl (o := .cells #[.int .i64 0] 3) (bMe W'))
          have p6 := T6.c2
          have lg2 : g2 < W'.heap.size := by have := ht.lo; have := ht.sz; omega
          have p5 := ht.c2
          obtain ⟨gf, hgf⟩ : ∃ gf, W'.heap.size = gf := ⟨_, rfl⟩
          have hgf' := hide hgf
          have HT6 := hide T6
          have HT := hide (And.intro ht (And.intro hc hdf))
          clear hgf T6 ht ha hc hr hxs hxl hdf T0
          gi_wp2_with (gi_at_call 20; refine (callsIn_wide.2 (ball_any HT6.out.bk (by omega))).mono ?_; rintro e w7 ⟨gb2, rfl, hI7, hb7⟩; have HI7 := hide hI7; have HB7 := hide hb7; clear hI7 hb7)
          have e6 : (W'.alloc (.cells #[.int .i64 0] 3)).heap.size = gf + 1 := by simp [hgf'.out]
          have F0 : Hid (FI W gt S w1.heap.size bb n hh g g2 most ((hh n).length : Int) gf D w7.heap.size 0 w7) := by
            have s7 := HB7.out.size
            rw [e6] at s7
            have lc := HT.out.2.1.cell.2.2
            have ld := (Array.getElem?_eq_some_iff.1 HT.out.2.2).1
            have h5 := HZ5.out
            have hgf := hgf'.out
            have old : ∀ k, k < W'.heap.size → w7.heap[k]? = W'.heap[k]? := fun k hk => (HB7.out.block k (by rw [e6]; omega)).trans (Below.heap_alloc _ _ _ hk)
            refine hide ⟨HT6.out.below HB7.out, HT.out.2.1.keep (old _ lc), ?_, (old D ld).trans HT.out.2.2, by omega, by omega, by omega, by omega, by omega⟩
            have e := World.alloc_heap_new W' (.cells #[.int .i64 0] 3)
            rw [hgf] at e
            exact (HB7.out.block gf (by rw [e6]; omega)).trans e
          have E6 := hide e6
          rw [e6] at HI7
          rw [hgf'.out]
          clear e6 p6 p5
          refine range_plain (n := 4) (L := hh n) (gb := gb2) (lo := gf + 1) (hi := w7.heap.size) (w := w7) ?_ ?_ ?_ ?_ ?_ (FJ W gt S w1.heap.size bb n hh g g2 most ((hh n).length : Int) gf D w7.heap.size (hh n)) (FX W gt S w1.heap.size bb n hh g g2 most ((hh n).length : Int) gf D w7.heap.size (hh n)) ?_ ?_ ?_ ?_ ?_ ?_ ?_
          · omega
          · rfl
          · omega
          · exact HI7.out
          · exact Nat.le_refl _
          · exact FJ.own
          · exact fun c => FX.own c
          · exact ⟨F0.out, Nat.le_refl _, .inl rfl⟩
          · intro l x W1 K hK
            gi_wp2
            exact hK
          · intro l pre x W1 hI hl
            obtain ⟨hF, hB, hm⟩ := hI
            obtain ⟨c0, c1, c2⟩ := hF.2.2.1.cell
            have m0 := hF.1.c0
            have T := FI.step (k := pre.length) (lo := gf + 1) (hi := w7.heap.size) hF hB (by omega)
            have hne : g ≠ gf ∧ gf ≠ g := by have := hF.1.lo; have := hF.2.2.2.2.2.2.2; omega
            obtain ⟨hne1, hne2⟩ := hne
            have T := hide T
            have HM := hide hm
            have HBs7 := hide hB
            have hz : ((W1.setCell ⟨gf, 0, none⟩ (.int .i64 (pre.length + 1))).heap.size) = W1.heap.size := by simp [World.setCell]
            have HZ := hide hz
            clear hF hB hm hz
            by_cases hge : most ≤ (pre.length : Int) + 1
            · gi_wp2
              refine ⟨T.out.1, rfl, by rw [List.length_append]; exact T.out.2.2, by rw [HZ.out]; exact HBs7.out, ?_, ?_⟩
              · rw [List.length_append]
                show most ≤ ((pre.length + 1 : Nat) : Int)
                omega
              · rw [List.length_append]
                show pre.length + 1 = 1 ∨ (0 < pre.length + 1 ∧ ((pre.length + 1 : Nat) : Int) - 1 < most)
                have := HM.out
                omega
            · gi_wp2
              refine ⟨T.out.1, T.out.2.1, by rw [List.length_append]; exact T.out.2.2, by rw [HZ.out]; exact HBs7.out, ?_⟩
              rw [List.length_append]
              show pre.length + 1 = 0 ∨ ((pre.length + 1 : Nat) : Int) < most
              omega
          · intro D2 xs2 W3 hD2 hxs2 hI2 hdf2
            obtain ⟨hF, hB, hm⟩ := hI2
            have hxl2 : xs2.length = (hh n).length := by have e := congrArg List.length hxs2; rw [List.length_map] at e; exact e
            rw [hxl2] at hF hm
            have hkk : Hid (∃ M : Int, ((most < 1 ∧ M = 1) ∨ (1 ≤ most ∧ M = most)) ∧ ((M < ((hh n).length : Int) ∧ ((hh n).length : Int) = M) ∨ (((hh n).length : Int) ≤ M ∧ ((hh n).length : Int) = ((hh n).length : Int)))) := by
              by_cases h1 : most < 1
              · exact hide ⟨1, .inl ⟨h1, rfl⟩, .inr ⟨by omega, rfl⟩⟩
              · exact hide ⟨most, .inr ⟨by omega, rfl⟩, .inr ⟨by omega, rfl⟩⟩
            obtain ⟨k, hk⟩ : ∃ k, (hh n).length = k := ⟨_, rfl⟩
            have hkk' : Hid (∃ M : Int, ((most < 1 ∧ M = 1) ∨ (1 ≤ most ∧ M = most)) ∧ ((M < ((hh n).length : Int) ∧ (k : Int) = M) ∨ (((hh n).length : Int) ≤ M ∧ (k : Int) = ((hh n).length : Int)))) := by rw [← hk]; exact hkk
            have hF' : FI W gt S w1.heap.size bb n hh g g2 most ((hh n).length : Int) gf D w7.heap.size k W3 := by rw [← hk]; exact hF
            clear hF hkk hm hxl2 hxs2 hk hB
            obtain ⟨M, hM, hKM⟩ := hkk'.out
            have HM := hide hM
            have HKM := hide hKM
            have X : Hid (FC g2 (gt + 1) gf g bb ((hh n).length : Int) (k : Int) most W3.drew) := hide ⟨hF'.1.c2, hF'.2.1.cell.1, hF'.2.2.1.cell.1, hF'.1.c0⟩
            have HC3 := hide (bbytes_any (hF'.1.bk.below (bMe W3).drew) (by omega))
            have HF := hide hF'
            have HD2 := hide hdf2
            have HDD2 := hide hD2
            have hl34 : ((txt (hh n)).length : Int) = 34 * ((hh n).length : Int) := by rw [txt_length]; omega
            clear hF' hdf2 hM hKM hkk' hD2
            have hw34 : IntKind.i64.wrap (34 * ((hh n).length : Int)) = 34 * ((hh n).length : Int) := by rw [IntKind.wrap_i64]; omega
            gi_wp2
            refine wpIn_wide.2 (wp_region_noPanic ?_)
            refine wp_region_held_drew (S := FC g2 (gt + 1) gf g bb ((hh n).length : Int) (k : Int) most) (by kernel_rfl) X.out (fun _ => ?_)
            refine tk0 (v := .pointer (some ⟨bb, 0, none⟩)) (by kernel_rfl) (by kernel_rfl) (by kernel_rfl) (fun _ _ _ h => h) X.out (Or.inl ⟨by rfl, fun w hw => by obtain ⟨h0, h1, h2, h3⟩ := hw; go_simp; try (with_reducible rfl)⟩) ?_
            simp only [Act.put, List.setIfInBounds_toArray, List.set_cons_zero, List.set_cons_succ]
            refine tk3 (v := .int .i64 ((hh n).length : Int)) (by kernel_rfl) (by kernel_rfl) (by kernel_rfl) (fun _ _ _ h => h) X.out (Or.inl ⟨by rfl, fun w hw => by obtain ⟨h0, h1, h2, h3⟩ := hw; go_simp; try (with_reducible rfl)⟩) ?_
            simp only [Act.put, List.setIfInBounds_toArray, List.set_cons_zero, List.set_cons_succ]
            refine tk4 (v := .int .i64 (34 * ((hh n).length : Int))) (by kernel_rfl) (by kernel_rfl) (by kernel_rfl) (fun _ _ _ h => h) X.out (Or.inl ⟨by rfl, fun w hw => by go_simp; try (with_reducible rfl)⟩) ?_
            simp only [Act.put, List.setIfInBounds_toArray, List.set_cons_zero, List.set_cons_succ]
            refine wpAnyH_ready (rs := [1]) (by kernel_rfl) (by simp) ?_
            refine rd1 (fun K hK => ?_) AllReadyH.nil
            go_simp
            refine (HC3.out).mono ?_
            rintro e w' ⟨v, rfl, hv, hb⟩
            simp only []
            replace X := hide (X.out.after hb)
            obtain ⟨vo, vc, rfl, hv1⟩ := hv.cell
            have HB3 := hide (show Below W3.heap.size W3 w' from bOn (bMe W3).drew hb)
            clear hv hv1 hb HC3
            refine hK.out _ _ X.out (fun _ => ?_)
            clear hK K
            refine tk2 (v := .int .i64 (34 * ((hh n).length : Int))) (by kernel_rfl) (by kernel_rfl) (by kernel_rfl) (fun _ _ _ h => h) X.out (Or.inl ⟨by rfl, fun w hw => by go_simp; try (with_reducible rfl)⟩) ?_
            simp only [Act.put, List.setIfInBounds_toArray, List.set_cons_zero, List.set_cons_succ]
            refine tk5 (v := .bool true) (by kernel_rfl) (by kernel_rfl) (by kernel_rfl) (fun _ _ _ h => h) X.out (Or.inl ⟨by rfl, fun w hw => by go_simp; try (with_reducible rfl)⟩) ?_
            simp only [Act.put, List.setIfInBounds_toArray, List.set_cons_zero, List.set_cons_succ]
            refine tk6 (v := .bool true) (by kernel_rfl) (by kernel_rfl) (by kernel_rfl) (fun _ _ _ h => h) X.out (Or.inl ⟨by rfl, fun w hw => by go_simp; try (with_reducible rfl)⟩) ?_
            simp only [Act.put, List.setIfInBounds_toArray, List.set_cons_zero, List.set_cons_succ]
            refine tk7 (v := .int .i64 (k : Int)) (by kernel_rfl) (by kernel_rfl) (by kernel_rfl) (fun _ _ _ h => h) X.out (Or.inl ⟨by rfl, fun w hw => by obtain ⟨h0, h1, h2, h3⟩ := hw; go_simp; try (with_reducible rfl)⟩) ?_
            simp only [Act.put, List.setIfInBounds_toArray, List.set_cons_zero, List.set_cons_succ]
            refine tk8 (v := .int .i64 ((hh n).length : Int)) (by kernel_rfl) (by kernel_rfl) (by kernel_rfl) (fun _ _ _ h => h) X.out (Or.inl ⟨by rfl, fun w hw => by obtain ⟨h0, h1, h2, h3⟩ := hw; go_simp; try (with_reducible rfl)⟩) ?_
            simp only [Act.put, List.setIfInBounds_toArray, List.set_cons_zero, List.set_cons_succ]
            refine tk9 (v := .int .i64 most) (by kernel_rfl) (by kernel_rfl) (by kernel_rfl) (fun _ _ _ h => h) X.out (Or.inl ⟨by rfl, fun w hw => by obtain ⟨h0, h1, h2, h3⟩ := hw; go_simp; try (with_reducible rfl)⟩) ?_
            simp only [Act.put, List.setIfInBounds_toArray, List.set_cons_zero, List.set_cons_succ]
            refine tk10 (v := .int .i64 M) (by kernel_rfl) (by kernel_rfl) (by kernel_rfl) (fun _ _ _ h => h) X.out (Or.inl ⟨by rfl, fun w hw => by go_simp; have hM := HM.out; (try split) <;> omega⟩) ?_
            simp only [Act.put, List.setIfInBounds_toArray, List.set_cons_zero, List.set_cons_succ]
            refine tk11 (v := .int .i64 (k : Int)) (by kernel_rfl) (by kernel_rfl) (by kernel_rfl) (fun _ _ _ h => h) X.out (Or.inl ⟨by rfl, fun w hw => by go_simp; have hM := HKM.out; (try split) <;> omega⟩) ?_
            simp only [Act.put, List.setIfInBounds_toArray, List.set_cons_zero, List.set_cons_succ]
            refine tk12 (v := .bool true) (by kernel_rfl) (by kernel_rfl) (by kernel_rfl) (fun _ _ _ h => h) X.out (Or.inl ⟨by rfl, fun w hw => by go_simp; try (with_reducible rfl)⟩) ?_
            simp only [Act.put, List.setIfInBounds_toArray, List.set_cons_zero, List.set_cons_succ]
            refine tk13 (v := .bool true) (by kernel_rfl) (by kernel_rfl) (by kernel_rfl) (fun _ _ _ h => h) X.out (Or.inl ⟨by rfl, fun w hw => by go_simp; try (with_reducible rfl)⟩) ?_
            simp only [Act.put, List.setIfInBounds_toArray, List.set_cons_zero, List.set_cons_succ]
            refine wpAnyH_ready (rs := [14]) (by kernel_rfl) (by simp) ?_
            refine rd14 (fun K hK => ?_) AllReadyH.nil
            have r1 := ((bcell HB3.out).1 (g + 1) 0 (by have := HF.out.1.lo; have := HF.out.1.sz; omega)).trans HF.out.1.c1
            have r2 := ((bcell HB3.out).2 (g + 1) 0 (by have := HF.out.1.lo; have := HF.out.1.sz; omega)).trans HF.out.1.f1
            go_simp
            have X2 : FC g2 (gt + 1) gf g bb ((hh n).length : Int) (k : Int) most (w'.setCell ⟨g + 1, 0, none⟩ (.bool true)) := by
              have q1 := HF.out.1.lo
              have q2 := HF.out.2.2.2.2.2.2.2
              have o : ∀ j, j ≠ g + 1 → (w'.setCell ⟨g + 1, 0, none⟩ (.bool true)).cell? ⟨j, 0, none⟩ = w'.cell? ⟨j, 0, none⟩ := fun j hj => World.cell?_of_block (w := w') (a := ⟨j, 0, none⟩) (Below.heap_setCell _ _ _ _ (by simp only []; omega))
              exact ⟨(o _ (by omega)).trans X.out.p0, (o _ (by omega)).trans X.out.n0, (o _ (by omega)).trans X.out.f0, (o _ (by omega)).trans X.out.m0⟩
            refine hK.out _ _ X2 (fun _ => ?_)
            clear hK K
            refine wpAnyH_done (by kernel_rfl) ?_ _
            refine NoPanic.normal ?_
            have R1 := hide r1
            clear r1 r2 X X2
            gi_wp2
            obtain ⟨wz, hwz⟩ : ∃ wz, w'.setCell ⟨g + 1, 0, none⟩ (.bool true) = wz := ⟨_, rfl⟩
            have q1 := HF.out.1.lo
            have q2 := HF.out.2.2.2.2.2.2.2
            have l2 := (Array.getElem?_eq_some_iff.1 HD2.out).1
            have q3 := HF.out.2.2.2.2.2.2.1
            have q4 := HDD2.out
            have kz : ∀ j, j < W3.heap.size → j ≠ g + 1 → wz.heap[j]? = W3.heap[j]? := fun j h1 h2 => by rw [← hwz]; exact (Below.heap_setCell _ _ _ _ (by simp only []; omega)).trans (HB3.out.block j h1)
            have k2 := (kz D2 l2 (by omega)).trans HD2.out
            have k1 := (kz D (Array.getElem?_eq_some_iff.1 HF.out.2.2.2.1).1 (by omega)).trans HF.out.2.2.2.1
            have k1' : (wz.putObj D2 (.deferred none)).heap[D]? = some (.deferred (some [])) := (World.putObj_heap_other (by omega)).trans k1
            have cz : wz.cell? ⟨g + 1, 0, none⟩ = some (.bool true) := by rw [← hwz]; have r1 := R1.out; simp [go_sem, r1]
            have cz2 : ((wz.putObj D2 (.deferred none)).putObj D (.deferred none)).cell? ⟨g + 1, 0, none⟩ = some (.bool true) := (World.cell?_of_block (w := wz) (a := ⟨g + 1, 0, none⟩) ((World.putObj_heap_other (by simp only []; omega)).trans (World.putObj_heap_other (by simp only []; omega)))).trans cz
            have Bz : Below W.heap.size W wz := by rw [← hwz]; exact (bOn HF.out.1.be HB3.out).setCell (p := ⟨g + 1, 0, none⟩) (by simp only []; omega) _
            have Bz2 := (Bz.trans (belowK_b (w := W) (Nat.le_refl _) wz D2 _ (.deferred none) (by omega) k2 rfl rfl)).trans (belowK_b (w := W) (Nat.le_refl _) _ D _ (.deferred none) (by omega) k1' rfl rfl)
            rw [hwz]
            refine ⟨by simp, .inl ⟨_, _, rfl, run_takeDeferred k2, ?_⟩⟩
            refine ⟨by simp, .inl ⟨_, _, rfl, run_takeDeferred k1', ?_⟩⟩
            exact ⟨.bool true, by simp [results, Try.results5, go_sem, cz2], rfl, Bz2⟩
          · rintro D2 c pre W3 hD2 hp ⟨rfl, hF', hB, hm1, hm2⟩ hdf2
            have hpl : pre.length ≤ (hh n).length := by have := hp.length_le; rw [List.length_map] at this; exact this
            obtain ⟨k, hk⟩ : ∃ k, pre.length = k := ⟨_, rfl⟩
            rw [hk] at hF' hm1 hm2 hpl
            have hkk' : Hid (∃ M : Int, ((most < 1 ∧ M = 1) ∨ (1 ≤ most ∧ M = most)) ∧ ((M < ((hh n).length : Int) ∧ (k : Int) = M) ∨ (((hh n).length : Int) ≤ M ∧ (k : Int) = ((hh n).length : Int)))) := by
              by_cases h1 : most < 1
              · refine hide ⟨1, .inl ⟨h1, rfl⟩, ?_⟩
                omega
              · refine hide ⟨most, .inr ⟨by omega, rfl⟩, ?_⟩
                omega
            clear hm1 hm2 hp hpl hk hB
            obtain ⟨M, hM, hKM⟩ := hkk'.out
            have HM := hide hM
            have HKM := hide hKM
            have X : Hid (FC g2 (gt + 1) gf g bb ((hh n).length : Int) (k : Int) most W3.drew) := hide ⟨hF'.1.c2, hF'.2.1.cell.1, hF'.2.2.1.cell.1, hF'.1.c0⟩
            have HC3 := hide (bbytes_any (hF'.1.bk.below (bMe W3).drew) (by omega))
            have HF := hide hF'
            have HD2 := hide hdf2
            have HDD2 := hide hD2
            have hl34 : ((txt (hh n)).length : Int) = 34 * ((hh n).length : Int) := by rw [txt_length]; omega
            clear hF' hdf2 hM hKM hkk' hD2
            have hw34 : IntKind.i64.wrap (34 * ((hh n).length : Int)) = 34 * ((hh n).length : Int) := by rw [IntKind.wrap_i64]; omega
            gi_wp2
            refine wpIn_wide.2 (wp_region_noPanic ?_)
            refine wp_region_held_drew (S := FC g2 (gt + 1) gf g bb ((hh n).length : Int) (k : Int) most) (by kernel_rfl) X.out (fun _ => ?_)
            refine tk0 (v := .pointer (some ⟨bb, 0, none⟩)) (by kernel_rfl) (by kernel_rfl) (by kernel_rfl) (fun _ _ _ h => h) X.out (Or.inl ⟨by rfl, fun w hw => by obtain ⟨h0, h1, h2, h3⟩ := hw; go_simp; try (with_reducible rfl)⟩) ?_
            simp only [Act.put, List.setIfInBounds_toArray, List.set_cons_zero, List.set_cons_succ]
            refine tk3 (v := .int .i64 ((hh n).length : Int)) (by kernel_rfl) (by kernel_rfl) (by kernel_rfl) (fun _ _ _ h => h) X.out (Or.inl ⟨by rfl, fun w hw => by obtain ⟨h0, h1, h2, h3⟩ := hw; go_simp; try (with_reducible rfl)⟩) ?_
            simp only [Act.put, List.setIfInBounds_toArray, List.set_cons_zero, List.set_cons_succ]
            refine tk4 (v := .int .i64 (34 * ((hh n).length : Int))) (by kernel_rfl) (by kernel_rfl) (by kernel_rfl) (fun _ _ _ h => h) X.out (Or.inl ⟨by rfl, fun w hw => by go_simp; try (with_reducible rfl)⟩) ?_
            simp only [Act.put, List.setIfInBounds_toArray, List.set_cons_zero, List.set_cons_succ]
            refine wpAnyH_ready (rs := [1]) (by kernel_rfl) (by simp) ?_
            refine rd1 (fun K hK => ?_) AllReadyH.nil
            go_simp
            refine (HC3.out).mono ?_
            rintro e w' ⟨v, rfl, hv, hb⟩
            simp only []
            replace X := hide (X.out.after hb)
            obtain ⟨vo, vc, rfl, hv1⟩ := hv.cell
            have HB3 := hide (show Below W3.heap.size W3 w' from bOn (bMe W3).drew hb)
            clear hv hv1 hb HC3
            refine hK.out _ _ X.out (fun _ => ?_)
            clear hK K
            refine tk2 (v := .int .i64 (34 * ((hh n).length : Int))) (by kernel_rfl) (by kernel_rfl) (by kernel_rfl) (fun _ _ _ h => h) X.out (Or.inl ⟨by rfl, fun w hw => by go_simp; try (with_reducible rfl)⟩) ?_
            simp only [Act.put, List.setIfInBounds_toArray, List.set_cons_zero, List.set_cons_succ]
            refine tk5 (v := .bool true) (by kernel_rfl) (by kernel_rfl) (by kernel_rfl) (fun _ _ _ h => h) X.out (Or.inl ⟨by rfl, fun w hw => by go_simp; try (with_reducible rfl)⟩) ?_
            simp only [Act.put, List.setIfInBounds_toArray, List.set_cons_zero, List.set_cons_succ]
            refine tk6 (v := .bool true) (by kernel_rfl) (by kernel_rfl) (by kernel_rfl) (fun _ _ _ h => h) X.out (Or.inl ⟨by rfl, fun w hw => by go_simp; try (with_reducible rfl)⟩) ?_
            simp only [Act.put, List.setIfInBounds_toArray, List.set_cons_zero, List.set_cons_succ]
            refine tk7 (v := .int .i64 (k : Int)) (by kernel_rfl) (by kernel_rfl) (by kernel_rfl) (fun _ _ _ h => h) X.out (Or.inl ⟨by rfl, fun w hw => by obtain ⟨h0, h1, h2, h3⟩ := hw; go_simp; try (with_reducible rfl)⟩) ?_
            simp only [Act.put, List.setIfInBounds_toArray, List.set_cons_zero, List.set_cons_succ]
            refine tk8 (v := .int .i64 ((hh n).length : Int)) (by kernel_rfl) (by kernel_rfl) (by kernel_rfl) (fun _ _ _ h => h) X.out (Or.inl ⟨by rfl, fun w hw => by obtain ⟨h0, h1, h2, h3⟩ := hw; go_simp; try (with_reducible rfl)⟩) ?_
            simp only [Act.put, List.setIfInBounds_toArray, List.set_cons_zero, List.set_cons_succ]
            refine tk9 (v := .int .i64 most) (by kernel_rfl) (by kernel_rfl) (by kernel_rfl) (fun _ _ _ h => h) X.out (Or.inl ⟨by rfl, fun w hw => by obtain ⟨h0, h1, h2, h3⟩ := hw; go_simp; try (with_reducible rfl)⟩) ?_
            simp only [Act.put, List.setIfInBounds_toArray, List.set_cons_zero, List.set_cons_succ]
            refine tk10 (v := .int .i64 M) (by kernel_rfl) (by kernel_rfl) (by kernel_rfl) (fun _ _ _ h => h) X.out (Or.inl ⟨by rfl, fun w hw => by go_simp; have hM := HM.out; (try split) <;> omega⟩) ?_
            simp only [Act.put, List.setIfInBounds_toArray, List.set_cons_zero, List.set_cons_succ]
            refine tk11 (v := .int .i64 (k : Int)) (by kernel_rfl) (by kernel_rfl) (by kernel_rfl) (fun _ _ _ h => h) X.out (Or.inl ⟨by rfl, fun w hw => by go_simp; have hM := HKM.out; (try split) <;> omega⟩) ?_
            simp only [Act.put, List.setIfInBounds_toArray, List.set_cons_zero, List.set_cons_succ]
            refine tk12 (v := .bool true) (by kernel_rfl) (by kernel_rfl) (by kernel_rfl) (fun _ _ _ h => h) X.out (Or.inl ⟨by rfl, fun w hw => by go_simp; try (with_reducible rfl)⟩) ?_
            simp only [Act.put, List.setIfInBounds_toArray, List.set_cons_zero, List.set_cons_succ]
            refine tk13 (v := .bool true) (by kernel_rfl) (by kernel_rfl) (by kernel_rfl) (fun _ _ _ h => h) X.out (Or.inl ⟨by rfl, fun w hw => by go_simp; try (with_reducible rfl)⟩) ?_
            simp only [Act.put, List.setIfInBounds_toArray, List.set_cons_zero, List.set_cons_succ]
            refine wpAnyH_ready (rs := [14]) (by kernel_rfl) (by simp) ?_
            refine rd14 (fun K hK => ?_) AllReadyH.nil
            have r1 := ((bcell HB3.out).1 (g + 1) 0 (by have := HF.out.1.lo; have := HF.out.1.sz; omega)).trans HF.out.1.c1
            have r2 := ((bcell HB3.out).2 (g + 1) 0 (by have := HF.out.1.lo; have := HF.out.1.sz; omega)).trans HF.out.1.f1
            go_simp
            have X2 : FC g2 (gt + 1) gf g bb ((hh n).length : Int) (k : Int) most (w'.setCell ⟨g + 1, 0, none⟩ (.bool true)) := by
              have q1 := HF.out.1.lo
              have q2 := HF.out.2.2.2.2.2.2.2
              have o : ∀ j, j ≠ g + 1 → (w'.setCell ⟨g + 1, 0, none⟩ (.bool true)).cell? ⟨j, 0, none⟩ = w'.cell? ⟨j, 0, none⟩ := fun j hj => World.cell?_of_block (w := w') (a := ⟨j, 0, none⟩) (Below.heap_setCell _ _ _ _ (by simp only []; omega))
              exact ⟨(o _ (by omega)).trans X.out.p0, (o _ (by omega)).trans X.out.n0, (o _ (by omega)).trans X.out.f0, (o _ (by omega)).trans X.out.m0⟩
            refine hK.out _ _ X2 (fun _ => ?_)
            clear hK K
            refine wpAnyH_done (by kernel_rfl) ?_ _
            refine NoPanic.normal ?_
            have R1 := hide r1
            clear r1 r2 X X2
            gi_wp2
            obtain ⟨wz, hwz⟩ : ∃ wz, w'.setCell ⟨g + 1, 0, none⟩ (.bool true) = wz := ⟨_, rfl⟩
            have q1 := HF.out.1.lo
            have q2 := HF.out.2.2.2.2.2.2.2
            have l2 := (Array.getElem?_eq_some_iff.1 HD2.out).1
            have q3 := HF.out.2.2.2.2.2.2.1
            have q4 := HDD2.out
            have kz : ∀ j, j < W3.heap.size → j ≠ g + 1 → wz.heap[j]? = W3.heap[j]? := fun j h1 h2 => by rw [← hwz]; exact (Below.heap_setCell _ _ _ _ (by simp only []; omega)).trans (HB3.out.block j h1)
            have k2 := (kz D2 l2 (by omega)).trans HD2.out
            have k1 := (kz D (Array.getElem?_eq_some_iff.1 HF.out.2.2.2.1).1 (by omega)).trans HF.out.2.2.2.1
            have k1' : (wz.putObj D2 (.deferred none)).heap[D]? = some (.deferred (some [])) := (World.putObj_heap_other (by omega)).trans k1
            have cz : wz.cell? ⟨g + 1, 0, none⟩ = some (.bool true) := by rw [← hwz]; have r1 := R1.out; simp [go_sem, r1]
            have cz2 : ((wz.putObj D2 (.deferred none)).putObj D (.deferred none)).cell? ⟨g + 1, 0, none⟩ = some (.bool true) := (World.cell?_of_block (w := wz) (a := ⟨g + 1, 0, none⟩) ((World.putObj_heap_other (by simp only []; omega)).trans (World.putObj_heap_other (by simp only []; omega)))).trans cz
            have Bz : Below W.heap.size W wz := by rw [← hwz]; exact (bOn HF.out.1.be HB3.out).setCell (p := ⟨g + 1, 0, none⟩) (by simp only []; omega) _
            have Bz2 := (Bz.trans (belowK_b (w := W) (Nat.le_refl _) wz D2 _ (.deferred none) (by omega) k2 rfl rfl)).trans (belowK_b (w := W) (Nat.le_refl _) _ D _ (.deferred none) (by omega) k1' rfl rfl)
            rw [hwz]
            refine ⟨by simp, .inl ⟨_, _, rfl, run_takeDeferred k2, ?_⟩⟩
            refine ⟨by simp, .inl ⟨_, _, rfl, run_takeDeferred k1', ?_⟩⟩
            exact ⟨.bool true, by simp [results, Try.results5, go_sem, cz2], rfl, Bz2⟩
        · intro D c pre W' hD hp hn' _
          exact absurd (HGD.out.1.rising.ahead hp) hn'
end Go.Proofs.Ytodjfenbbbdofaa
