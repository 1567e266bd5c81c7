/- sponsionlaw14.PairTries is true (gen-pairtries.py). -/
import Derived.Test.YtncnilplmklccaaGreatPrWant
import Derived.Test.YtncnilplmklccaaGreatBkSame
import Derived.Test.YtncnilplmklccaaGreatPrTwo
namespace Go.Proofs.YtncnilplmklccaaGreat
set_option linter.unusedSimpArgs false
set_option linter.unusedVariables false
open Go.RowKit Go.Lib
attribute [local go_sem] setCell_drewN alloc_drewN

/-- How often a try's function is called. -/
def cN (x : Stp) : Int := if 16 ≤ x.f ∨ x.n ≠ 0 then 0 else 1
/-- The calls that a try makes: the nonce that is asked for, and Try. -/
theorem tryParts {W w : World} {bp gs gp gc cd f : Nat} {ad : Option Addr} {L : Nat → Kvs} {N : List Int} {F : Nat → Prop} {x : Stp} (p : PQ W w bp L N F) (hN : ∀ y ∈ N, y ≤ 1000000) (hx : x.Ok) (hlen : x.ds.length ≤ 10) (hd : Dds W ad x.ds) (fs : F gs) (fp : F gp) (fc : F gc) (hWc : W.heap.size ≤ gc) (ncs : gs ≠ gc) (ncp : gp ≠ gc) (hf : x.f = (f : Int))
    (V : VRow w gs (stV x ad cd)) (cp : w.cell? ⟨gp, 0, none⟩ = some (.pointer (some ⟨bp, 0, none⟩))) (cc : w.cell? ⟨gc, 0, none⟩ = some (.int .i64 0)) (fz : w.frozen? ⟨gc, 0, none⟩ = false) :
    ∃ y, (∀ w1, Below w.heap.size w w1 → Calls Tryz.prog 8 #[.pointer (some ⟨bp, 0, none⟩), .int .u8 f] w1 fun e w' => e = .returned (.int .u64 y) ∧ w' = w1) ∧
      ∀ w1, Below w.heap.size w w1 → Calls Tryz.prog 7 #[.pointer (some ⟨bp, 0, none⟩), .int .u8 f, .int .u64 (IntKind.u64.wrap (y + x.n)), .func (.func 9) #[] #[.pointer (some ⟨gc, 0, none⟩), .pointer (some ⟨gs, 0, none⟩), .pointer (some ⟨gp, 0, none⟩)]] w1 fun e w' => e = .returned (.int .i64 (sE L x)) ∧ PQ W w' bp (sL L x) (sN L N x) F ∧ Kp (fun k => F k ∧ k ≠ gc) w1 w' ∧ w'.cell? ⟨gc, 0, none⟩ = some (.int .i64 (cN x)) := by
  have hxf := hx.f
  have hft : x.f.toNat = f := by omega
  have lgc := cell_lt cc
  have c1 : ∀ w1, Below w.heap.size w w1 → w1.cell? ⟨gc, 0, none⟩ = some (.int .i64 0) := fun w1 hb => ((bcell hb).1 _ _ lgc).trans cc
  by_cases h16 : 16 ≤ f
  · have eE : sE L x = 1 := by unfold sE; rw [if_pos (by omega)]
    have eL : sL L x = L := by unfold sL; rw [eE, if_neg (by omega)]
    have eN : sN L N x = N := by unfold sN; rw [eE, if_neg (by omega)]
    have ec : cN x = 0 := by unfold cN; rw [if_pos (.inl (by omega))]
    rw [eE, eL, eN, ec]
    refine ⟨0, fun w1 _ => nonceNo_any h16 (by omega), fun w1 hb => (tryArg_any h16 (by omega)).mono ?_⟩
    rintro e w2 ⟨rfl, hb2⟩
    exact ⟨rfl, (p.below hb).below hb2, ((p.below hb).kp hb2).sub fun k hk => hk.1, ((bcell hb2).1 _ _ (cell_lt (c1 w1 hb))).trans (c1 w1 hb)⟩
  · have hf16 : f < 16 := by omega
    obtain ⟨y, hy⟩ : ∃ y, N[f]? = some y := ⟨N[f]'(by rw [p.nl]; omega), List.getElem?_eq_getElem _⟩
    have hyb := p.nb y (List.mem_of_getElem? hy)
    have hyl := hN y (List.mem_of_getElem? hy)
    refine ⟨y, fun w1 hb => nonce_any hf16 ((p.below hb).cell hy), fun w1 hb => ?_⟩
    by_cases hn : x.n = 0
    · have eE : sE L x = sR L x := by unfold sE; rw [if_neg (by omega), if_neg (by simp [hn])]
      have ec : cN x = 1 := by unfold cN; rw [if_neg (by rintro (h | h); omega; exact h hn)]
      have hq : IntKind.u64.wrap (y + x.n) = y := by rw [hn, IntKind.wrap_u64]; omega
      rw [hq, ec]
      refine (tryT_any (p.below hb) hf16 hy (by omega) hx hlen hd fs fp fc hWc ncs ncp (V.of hb.size (hb.block _ V.lt)) (((bcell hb).1 _ _ (cell_lt cp)).trans cp) (c1 w1 hb) ((World.frozen?_of_block (w := w) (a := ⟨gc, 0, none⟩) (hb.block gc lgc)).trans fz)).mono ?_
      rintro e w2 ⟨rfl, r0, r1, k2, c2⟩
      refine ⟨by rw [eE], ?_, k2, c2⟩
      by_cases h0 : sR L x = 0
      · have e1 : sL L x = (rD L x.ds).2 := by unfold sL; rw [eE, if_pos h0]
        have e2 : sN L N x = N.set f (y + 1) := by unfold sN; rw [eE, if_pos h0, hft, List.getD_eq_getElem?_getD, hy]; rfl
        rw [e1, e2]
        exact r0 h0
      · have e1 : sL L x = L := by unfold sL; rw [eE, if_neg h0]
        have e2 : sN L N x = N := by unfold sN; rw [eE, if_neg h0]
        rw [e1, e2]
        exact r1 h0
    · have eE : sE L x = 9 := by unfold sE; rw [if_neg (by omega), if_pos hn]
      have eL : sL L x = L := by unfold sL; rw [eE, if_neg (by omega)]
      have eN : sN L N x = N := by unfold sN; rw [eE, if_neg (by omega)]
      have ec : cN x = 0 := by unfold cN; rw [if_pos (.inr hn)]
      have hxn := hx.n
      rw [eE, eL, eN, ec]
      refine (tryNonce_any hf16 ((p.below hb).cell hy) (by rw [IntKind.wrap_u64]; omega)).mono ?_
      rintro e w2 ⟨rfl, hb2⟩
      exact ⟨rfl, (p.below hb).below hb2, ((p.below hb).kp hb2).sub fun k hk => hk.1, ((bcell hb2).1 _ _ (cell_lt (c1 w1 hb))).trans (c1 w1 hb)⟩
/-- A pair and the document's pair beside it. -/
structure TrS (W w : World) (bp gp gt : Nat) (L : Nat → Kvs) (N : List Int) (F : Nat → Prop) (L2 : Nat → Kvs) (N2 : List Int) : Prop where
  pq : PQ W w bp L N (fun k => (k = gp ∨ k = gt) ∨ F k)
  cp : w.cell? ⟨gp, 0, none⟩ = some (.pointer (some ⟨bp, 0, none⟩))
  tb : URow w gt 592 (pf L2 N2)
theorem TrS.after {W w w' : World} {bp gp gt : Nat} {L L2 : Nat → Kvs} {N N2 : List Int} {F : Nat → Prop} (h : TrS W w bp gp gt L N F L2 N2) (hb : Below w.heap.size w w') : TrS W w' bp gp gt L N F L2 N2 :=
  ⟨h.pq.below hb, ((bcell hb).1 _ _ (cell_lt h.cp)).trans h.cp, h.tb.after hb rfl⟩
theorem TrS.add {W w w' : World} {bp gp gt : Nat} {L L2 : Nat → Kvs} {N N2 : List Int} {F : Nat → Prop} (h : TrS W w bp gp gt L N (fun _ => False) L2 N2) (hb : Below w.heap.size w w') (hF : ∀ k, F k → w.heap.size ≤ k ∧ k < w'.heap.size) : TrS W w' bp gp gt L N F L2 N2 :=
  ⟨(h.pq.add hb hF).sub fun k hk => hk.elim (fun e => .inl (.inl e)) .inr, ((bcell hb).1 _ _ (cell_lt h.cp)).trans h.cp, h.tb.after hb rfl⟩
theorem TrS.drop {W w : World} {bp gp gt : Nat} {L L2 : Nat → Kvs} {N N2 : List Int} {F : Nat → Prop} (h : TrS W w bp gp gt L N F L2 N2) : TrS W w bp gp gt L N (fun _ => False) L2 N2 :=
  ⟨h.pq.sub fun k hk => hk.elim .inl (fun e => e.elim), h.cp, h.tb⟩
theorem TrS.kp {W w w' : World} {bp gp gt gc : Nat} {L L2 L' : Nat → Kvs} {N N2 N' : List Int} {F : Nat → Prop} (h : TrS W w bp gp gt L N F L2 N2) (p : PQ W w' bp L' N' (fun k => (k = gp ∨ k = gt) ∨ F k)) (k : Kp (fun k => ((k = gp ∨ k = gt) ∨ F k) ∧ k ≠ gc) w w') (n1 : gp ≠ gc) (n2 : gt ≠ gc) : TrS W w' bp gp gt L' N' F L2 N2 :=
  ⟨p, (k.cell ⟨.inl (.inl rfl), n1⟩).trans h.cp, h.tb.of k.1 (k.2 gt ⟨.inl (.inr rfl), n2⟩)⟩
theorem TrS.put {W w : World} {bp gp gt : Nat} {L L2 : Nat → Kvs} {N N2 : List Int} {F : Nat → Prop} (h : TrS W w bp gp gt L N F L2 N2) (hne : gp ≠ gt) (hW : W.heap.size ≤ gt) (L3 : Nat → Kvs) (N3 : List Int) : TrS W (w.setCells gt 0 (rowU 592 (pf L3 N3))) bp gp gt L N F L3 N3 := by
  have hb : ∀ k, k ≠ gt → (w.setCells gt 0 (rowU 592 (pf L3 N3))).heap[k]? = w.heap[k]? := fun k hk => setCells_block _ _ _ _ _ hk
  have hz : w.heap.size ≤ (w.setCells gt 0 (rowU 592 (pf L3 N3))).heap.size := by rw [setCells_size]; exact Nat.le_refl _
  have c0 := h.tb.cell 0 (by omega)
  exact ⟨h.pq.turn (F := fun k => k = gt) (fun k hk => by subst hk; exact ⟨.inl (.inr rfl), hW⟩) (fun k v hk hv b e => by subst hk; rw [c0] at hv; cases hv; cases e) hz (fun k _ hk => hb k hk) (setCells_below h.pq.be hW _ _), (World.cell?_of_block (w := w) (a := ⟨gp, 0, none⟩) (hb gp hne)).trans h.cp, h.tb.stored _⟩
theorem TrS.side {W w : World} {bp gp gt : Nat} {L L2 : Nat → Kvs} {N N2 : List Int} {F : Nat → Prop} (h : TrS W w bp gp gt L N F L2 N2) {s : Nat} (hs : s < 2) : ∃ bj b Fr', w.cell? ⟨bp, 1 + s, none⟩ = some (.pointer (some ⟨b, 0, none⟩)) ∧ BS W w bj b 0 (fun _ => L s) Fr' := by
  obtain ⟨bj, b, Fr', h1, h2, _⟩ := h.pq.side hs
  exact ⟨bj, b, Fr', h1, h2⟩
theorem PQ.goodL {W w : World} {bp : Nat} {L : Nat → Kvs} {N : List Int} {F : Nat → Prop} (p : PQ W w bp L N F) : GoodL L := fun s hs => p.good s 0 hs (Nat.le_refl _)
theorem pf_zero : (rowU 592 (pf (fun _ => []) (List.replicate 16 0))).toArray = Array.replicate 592 (.int .u64 0) := by
  rw [show rowU 592 (pf (fun _ => []) (List.replicate 16 0)) = rowU 592 (fun _ => 0) from rowU_congr fun j hj => ?_]
  · exact rowU_zero 592
  · unfold pf
    have h0 : ∀ i, tl (tb []) i = 0 := fun i => by rw [tb_nil]; unfold tl tz; exact lm_zero _
    split
    · exact h0 _
    · split
      · exact h0 _
      · rw [List.getD_eq_getElem?_getD]
        rw [List.getElem?_replicate]
        split <;> rfl
set_option maxRecDepth 100000 in
set_option maxHeartbeats 16000000 in
theorem pairTries_walk (ao : Option Addr) (cap : Nat) (xs : List Stp) (W : World) (hl : xs.length ≤ cap ∧ cap ≤ maxLen ∧ Sts W ao xs ∧ ∀ x ∈ xs, x.Ok) :
    Calls Tryz.prog 3 #[.slice ao xs.length cap] W fun e w' => e = .returned (.bool true) ∧ Below W.heap.size W w' := by
  have hmf : ∀ (fn : Fn) (first cap : Array Value) (w : World), (Instr.makeFunc fn first cap).run Tryz.prog w = .ok (.func fn first cap) w := fun _ _ _ _ => rfl
  have HS := hide hl.2.2.1
  have HO := hide hl.2.2.2
  have hxl : xs.length ≤ maxLen := Nat.le_trans hl.1 hl.2.1
  have HF := hide (fun (w1 : World) (hb : Below W.heap.size W w1) => few_any (cap := cap) hb HS.out hxl (fun x hx => (HO.out x hx).len))
  clear hl
  cases hfb : fewB xs with
  | false =>
    go_enter Tryz.func3, Tryz.ntmps3
    go_wp2_with fail
    refine (lives14_any W).mono ?_
    rintro e w1 ⟨rfl, hb1⟩
    have C := hide (HF.out w1 hb1)
    rw [hfb] at C
    go_wp2_with fail
    refine C.out.mono ?_
    rintro e w2 ⟨rfl, hb2⟩
    go_wp2_with fail
    refine (lives14_any w2).mono ?_
    rintro e w3 ⟨rfl, hb3⟩
    go_wp2
    go_ret
    exact ⟨rfl, bOn (bOn hb1 hb2) hb3⟩
  | true =>
    obtain ⟨hl20, hx10⟩ := fewB_len hfb
    have hl20i : (xs.length : Int) ≤ 20 := by omega
    obtain ⟨Z, hZ⟩ : ∃ Z : Array Value, Z = Array.replicate 592 (.int .u64 0) := ⟨_, rfl⟩
    have hz592 : ∀ w, (zeroValue 37).run Tryz.prog w = .ok (.agg Z) w := fun w => by rw [hZ]; exact zero592 w
    have HZ := hide hZ
    clear hZ
    go_enter Tryz.func3, Tryz.ntmps3
    go_wp2_with fail
    refine (lives14_any W).mono ?_
    rintro e w1 ⟨rfl, hb1⟩
    have C := hide (HF.out w1 hb1)
    rw [hfb] at C
    go_wp2_with fail
    refine C.out.mono ?_
    clear C HF hfb
    rintro e w2 ⟨rfl, hb2⟩
    have C := hide (new14_any (bOn hb1 hb2) (Fr := fun _ => False) (fun k h => h.elim))
    obtain ⟨bp, hbp⟩ : ∃ bp, w2.heap.size = bp := ⟨_, rfl⟩
    rw [hbp] at C
    clear hb1 hb2
    go_wp2_with fail
    refine C.out.mono ?_
    clear C
    rintro e w3 ⟨rfl, p3, _⟩
    obtain ⟨gp, hgp⟩ : ∃ gp, w3.heap.size = gp := ⟨_, rfl⟩
    obtain ⟨w4, hw4⟩ : ∃ w4, (w3.alloc (.cells #[.pointer (some ⟨bp, 0, none⟩)] 25)).alloc (.cells Z 37) = w4 := ⟨_, rfl⟩
    have HWp : Hid (W.heap.size ≤ gp) := by rw [← hgp]; exact hide p3.be.size
    have T4 : Hid (TrS W w4 bp gp (gp + 1) (fun _ => []) (List.replicate 16 0) (fun _ => False) (fun _ => []) (List.replicate 16 0)) := by
      rw [← hw4, HZ.out, ← hgp]
      refine hide ⟨(p3.add (F := fun k => k = w3.heap.size ∨ k = w3.heap.size + 1) (bAl (bAl (bMe w3))) fun k hk => by simp; omega).sub fun k hk => ?_, by simp [go_sem], ?_⟩
      · rcases hk with h | h
        · exact .inr h
        · exact h.elim
      · rw [← pf_zero]
        exact URow.box _ 592 _ _ (by simp)
    clear p3 hbp
    obtain ⟨gt, hgt⟩ : ∃ gt, gp + 1 = gt := ⟨_, rfl⟩
    rw [hgt] at T4
    have HG := hide hgt
    clear hgt
    go_wp2
    try rw [hgp]
    try rw [HG.out]
    clear hw4 hgp
    go_loopw [23] (fun q wr => ∃ (i : Nat) (L : Nat → Kvs) (N : List Int), i ≤ xs.length ∧ q = .int .i64 i ∧ TrS W wr bp gp gt L N (fun _ => False) L N ∧ ∀ y ∈ N, y ≤ (i : Int)) (fun q _ => (xs.length - intOf q).toNat)
    case atStart => exact ⟨0, _, _, Nat.zero_le _, rfl, T4.out, fun y hy => by have := (List.mem_replicate.1 hy).2; omega⟩
    case round =>
      obtain ⟨i, L, N, hi, rfl, ht, hN⟩ := hrel
      clear T4
      by_cases hlt : i < xs.length
      · have hlt1 : (i : Int) < xs.length := by omega
        obtain ⟨x, hx⟩ : ∃ x, xs[i]? = some x := ⟨xs[i], List.getElem?_eq_getElem hlt⟩
        obtain ⟨b, off, ad, cd, rfl, _, hr, hd⟩ := HS.out.got ht.pq.be hx
        have hxo := HO.out x (List.mem_of_getElem? hx)
        have hxl10 := hx10 x (List.mem_of_getElem? hx)
        have e0 : wr.cell? ⟨b, off + i * 4, none⟩ = some (.int .u8 x.f) := rangeAt_cell hr 0 rfl
        have e1 := rangeAt_cell hr 1 rfl
        have e2 := rangeAt_cell hr 2 rfl
        have e3 := rangeAt_cell hr 3 rfl
        have hxf := hxo.f
        obtain ⟨f, hf⟩ : ∃ f : Nat, x.f = (f : Int) := ⟨x.f.toNat, by omega⟩
        have HGT : Hid (gp ≠ gt ∧ W.heap.size ≤ gt ∧ gp < wr.heap.size ∧ gt < wr.heap.size) := by
          have := HWp.out; have h1 := cell_lt ht.cp; have h2 := ht.tb.lt; have h3 := HG.out
          exact hide ⟨by omega, by omega, h1, by omega⟩
        obtain ⟨gs, hgs⟩ : ∃ gs, wr.heap.size = gs := ⟨_, rfl⟩
        obtain ⟨w6, hw6⟩ : ∃ w6, (wr.alloc (.cells #[.int .u8 x.f, .int .u64 x.n, .slice ad x.ds.length cd, .int .i64 x.x] 40)).alloc (.cells #[.int .i64 0] 3) = w6 := ⟨_, rfl⟩
        have hb6 : Below wr.heap.size wr w6 := by rw [← hw6]; exact bAl (bAl (bMe wr))
        obtain ⟨gc, hgc⟩ : ∃ gc, gs + 1 = gc := ⟨_, rfl⟩
        have V6 : Hid (VRow w6 gs (stV x ad cd)) := by rw [← hw6]; exact hide ((VRow.box _ (stV x ad cd) _ hgs).past _)
        have c6 : w6.cell? ⟨gc, 0, none⟩ = some (.int .i64 0) := by rw [← hw6, ← hgc, ← hgs]; simp [go_sem]
        have z6 : w6.frozen? ⟨gc, 0, none⟩ = false := by rw [← hw6, ← hgc, ← hgs]; simp [go_sem]
        have h6z : w6.heap.size = gs + 2 := by rw [← hw6]; simp [hgs]
        have T6 : Hid (TrS W w6 bp gp gt L N (fun k => k = gs ∨ k = gc) L N) := by
          exact hide (ht.add hb6 fun k hk => by rw [hgs, h6z]; omega)
        have ncs : gs ≠ gc := by omega
        have ncp : gp ≠ gc := by have := HGT.out.2.2.1; omega
        have nct : gt ≠ gc := by have := HGT.out.2.2.2; omega
        have nst : gs ≠ gt := by have := HGT.out.2.2.2; omega
        obtain ⟨y, hy1, hy2⟩ := tryParts T6.out.pq (fun y hy => by have := hN y hy; omega) hxo hxl10 hd (.inr (.inl rfl)) (.inl (.inl rfl)) (.inr (.inr rfl)) (by have := HGT.out.2.1; have := HGT.out.2.2.2; omega) ncs ncp hf V6.out T6.out.cp c6 z6
        have PT := hide (And.intro hy1 hy2)
        have HN2 := hide (sN_le (L := L) (x := x) (by omega) hN)
        have HNN := hide hN
        have HDD := hide hd
        have HBE := hide ht.pq.be
        have HWb := hide (show Below W.heap.size W W from bMe W)
        rw [hf] at hw6
        clear ht hN hr hx hd hy1 hy2 hb6 h6z
        have HW6 := hide (And.intro hw6 (And.intro hgc hgs))
        clear hw6 hgc hgs c6 z6 hxf
        go_wp2
        try rw [HW6.out.2.2]
        try rw [HW6.out.2.1]
        try rw [HW6.out.1]
        clear e0 e1 e2 e3 HW6
        have GL := hide T6.out.pq.goodL
        have NL := hide (And.intro T6.out.pq.nl (fun (y : Int) (hy : y ∈ N) => (⟨(T6.out.pq.nb y hy).1, by have := HNN.out y hy; omega⟩ : 0 ≤ y ∧ y ≤ 1000000)))
        have T7 := hide (T6.out.after (bMe w6).drew)
        have V7 : Hid (VRow w6.drew gs (stV x ad cd)) := hide (V6.out.of (Nat.le_refl _) rfl)
        have CT := hide (PT.out.2 w6.drew (bMe w6).drew)
        have CO := hide (PT.out.1 w6.drew (bMe w6).drew)
        refine wp_region_held_drew (S := fun w1 => w1.cell? ⟨gp, 0, none⟩ = some (.pointer (some ⟨bp, 0, none⟩)) ∧ VRow w1 gs (stV x ad cd)) (by kernel_rfl) ⟨T7.out.cp, V7.out⟩ (fun _ => ?_)
        generalize w6.drew = w7 at *
        refine tk0 (v := .pointer (some ⟨bp, 0, none⟩)) (by kernel_rfl) (by kernel_rfl) (by kernel_rfl) (fun _ _ _ h => h) ⟨T7.out.cp, V7.out⟩ (Or.inl ⟨by rfl, fun w hw => by have c := hw.1; go_simp; try (with_reducible rfl)⟩) ?_
        simp only [Act.put, List.setIfInBounds_toArray, List.set_cons_zero, List.set_cons_succ]
        refine tk1 (v := .pointer (some ⟨gs, 0, none⟩)) (by kernel_rfl) (by kernel_rfl) (by kernel_rfl) (fun _ _ _ h => h) ⟨T7.out.cp, V7.out⟩ (Or.inl ⟨by rfl, fun w hw => by go_simp; try (with_reducible rfl)⟩) ?_
        simp only [Act.put, List.setIfInBounds_toArray, List.set_cons_zero, List.set_cons_succ]
        refine tk2 (v := .int .u8 (f : Int)) (by kernel_rfl) (by kernel_rfl) (by kernel_rfl) (fun _ _ _ h => h) ⟨T7.out.cp, V7.out⟩ (Or.inl ⟨by rfl, fun w hw => by have c := hw.2.cell 0 rfl; rw [hf] at c; go_simp; try (with_reducible rfl)⟩) ?_
        simp only [Act.put, List.setIfInBounds_toArray, List.set_cons_zero, List.set_cons_succ]
        refine tk3 (v := .pointer (some ⟨bp, 0, none⟩)) (by kernel_rfl) (by kernel_rfl) (by kernel_rfl) (fun _ _ _ h => h) ⟨T7.out.cp, V7.out⟩ (Or.inl ⟨by rfl, fun w hw => by have c := hw.1; go_simp; try (with_reducible rfl)⟩) ?_
        simp only [Act.put, List.setIfInBounds_toArray, List.set_cons_zero, List.set_cons_succ]
        refine tk4 (v := .pointer (some ⟨gs, 0, none⟩)) (by kernel_rfl) (by kernel_rfl) (by kernel_rfl) (fun _ _ _ h => h) ⟨T7.out.cp, V7.out⟩ (Or.inl ⟨by rfl, fun w hw => by go_simp; try (with_reducible rfl)⟩) ?_
        simp only [Act.put, List.setIfInBounds_toArray, List.set_cons_zero, List.set_cons_succ]
        refine tk5 (v := .int .u8 (f : Int)) (by kernel_rfl) (by kernel_rfl) (by kernel_rfl) (fun _ _ _ h => h) ⟨T7.out.cp, V7.out⟩ (Or.inl ⟨by rfl, fun w hw => by have c := hw.2.cell 0 rfl; rw [hf] at c; go_simp; try (with_reducible rfl)⟩) ?_
        simp only [Act.put, List.setIfInBounds_toArray, List.set_cons_zero, List.set_cons_succ]
        refine tk7 (v := .pointer (some ⟨gs, 1, none⟩)) (by kernel_rfl) (by kernel_rfl) (by kernel_rfl) (fun _ _ _ h => h) ⟨T7.out.cp, V7.out⟩ (Or.inl ⟨by rfl, fun w hw => by go_simp; try (with_reducible rfl)⟩) ?_
        simp only [Act.put, List.setIfInBounds_toArray, List.set_cons_zero, List.set_cons_succ]
        refine tk8 (v := .int .u64 x.n) (by kernel_rfl) (by kernel_rfl) (by kernel_rfl) (fun _ _ _ h => h) ⟨T7.out.cp, V7.out⟩ (Or.inl ⟨by rfl, fun w hw => by have c := hw.2.cell 1 rfl; go_simp; try (with_reducible rfl)⟩) ?_
        simp only [Act.put, List.setIfInBounds_toArray, List.set_cons_zero, List.set_cons_succ]
        refine tk10 (v := .func (.func 9) #[] #[.pointer (some ⟨gc, 0, none⟩), .pointer (some ⟨gs, 0, none⟩), .pointer (some ⟨gp, 0, none⟩)]) (by kernel_rfl) (by kernel_rfl) (by kernel_rfl) (fun _ _ _ h => h) ⟨T7.out.cp, V7.out⟩ (Or.inl ⟨by rfl, fun w hw => by go_simp; try exact hmf _ _ _ _; try (with_reducible rfl)⟩) ?_
        simp only [Act.put, List.setIfInBounds_toArray, List.set_cons_zero, List.set_cons_succ]
        refine wpAnyH_ready (rs := [6]) (by kernel_rfl) (by simp) ?_
        refine rd6 (fun K hK => ?_) AllReadyH.nil
        go_simp
        refine CO.out.mono ?_
        rintro e w8 ⟨rfl, rfl⟩
        simp only []
        refine hK.out _ _ ⟨T7.out.cp, V7.out⟩ (fun _ => ?_)
        clear hK K CO
        refine tk9 (v := .int .u64 (IntKind.u64.wrap (y + x.n))) (by kernel_rfl) (by kernel_rfl) (by kernel_rfl) (fun _ _ _ h => h) ⟨T7.out.cp, V7.out⟩ (Or.inl ⟨by rfl, fun w hw => by go_simp; try (with_reducible rfl)⟩) ?_
        simp only [Act.put, List.setIfInBounds_toArray, List.set_cons_zero, List.set_cons_succ]
        refine wpAnyH_ready (rs := [11]) (by kernel_rfl) (by simp) ?_
        refine rd11 (fun K hK => ?_) AllReadyH.nil
        go_simp
        refine CT.out.mono ?_
        rintro e w9 ⟨rfl, p9, k9, c9⟩
        simp only []
        have T9 := hide (T7.out.kp p9 k9 ncp nct)
        have V9 : Hid (VRow w9 gs (stV x ad cd)) := hide (V7.out.of k9.1 (k9.2 gs ⟨.inr (.inl rfl), ncs⟩))
        have C9 := hide c9
        clear p9 k9 c9 T7 V7 CT
        refine hK.out _ _ ⟨T9.out.cp, V9.out⟩ (fun _ => ?_)
        clear hK K
        refine tk12 (v := .int .i64 (sE L x)) (by kernel_rfl) (by kernel_rfl) (by kernel_rfl) (fun _ _ _ h => h) ⟨T9.out.cp, V9.out⟩ (Or.inl ⟨by rfl, fun w hw => by go_simp; try (with_reducible rfl)⟩) ?_
        simp only [Act.put, List.setIfInBounds_toArray, List.set_cons_zero, List.set_cons_succ]
        refine wpAnyH_done (by kernel_rfl) ?_ _
        have t0 : w9.cell? ⟨gs, 0, none⟩ = some (.int .u8 x.f) := V9.out.cell 0 rfl
        have t1 := V9.out.cell 1 rfl
        have t2 := V9.out.cell 2 rfl
        have t3 := V9.out.cell 3 rfl
        have CW := hide (want_any (cd := cd) T9.out.pq.be HDD.out hxo (GL.out) (NL.out.1) (NL.out.2))
        rw [hf] at CW t0
        clear PT
        go_wp2_with (first | (refine wpList_load_mid rfl 37 _ rfl gt 0 rfl (rowU 592 (pf L N)) _ ?hr Tryz.underlying37 rfl (info_pv _) ?_; (case hr => exact T9.out.tb.range)))
        refine CW.out.mono ?_
        clear CW t0 t1 t2 t3
        rintro e w10 ⟨rfl, hb10⟩
        obtain ⟨E, hE⟩ : ∃ E, sE L x = E := ⟨_, rfl⟩
        obtain ⟨L2, hL2⟩ : ∃ L2, sL L x = L2 := ⟨_, rfl⟩
        obtain ⟨N2, hN2⟩ : ∃ N2, sN L N x = N2 := ⟨_, rfl⟩
        rw [hE, hL2, hN2]
        rw [hL2, hN2] at T9
        rw [hN2] at HN2
        clear hE hL2 hN2
        obtain ⟨gv, hgv⟩ : ∃ gv, w10.heap.size = gv := ⟨_, rfl⟩
        obtain ⟨w11, hw11⟩ : ∃ w11, w10.alloc (.cells Z 37) = w11 := ⟨_, rfl⟩
        have U11 : Hid (URow w11 gv 592 (fun _ => 0)) := by rw [← hw11, HZ.out]; exact hide (URow.new w10 592 _ hgv)
        have T11 : Hid (TrS W w11 bp gp gt L2 N2 (fun k => k = gs ∨ k = gc) L N) := by rw [← hw11]; exact hide ((T9.out.after hb10).after (bAl (bMe w10)))
        have V11 : Hid (VRow w11 gs (stV x ad cd)) := by rw [← hw11]; exact hide ((V9.out.after hb10 rfl).past _)
        have C11 : Hid (w11.cell? ⟨gc, 0, none⟩ = some (.int .i64 (cN x))) := by
          rw [← hw11]
          have l9 := cell_lt C9.out
          exact hide (((bcell (bOn hb10 (bAl (o := .cells Z 37) (bMe w10)))).1 _ _ l9).trans C9.out)
        obtain ⟨w12a, hw12a⟩ : ∃ w12a, w11.setCells gv 0 (rowU 592 (pf L2 N2)) = w12a := ⟨_, rfl⟩
        have hgv1 : gs < gv ∧ gc < gv ∧ gp < gv ∧ gt < gv := by
          have h0 := hb10.size
          have h1 := V9.out.lt; have h2 := cell_lt C9.out; have h3 := cell_lt T9.out.cp; have h4 := T9.out.tb.lt
          omega
        have hbA : ∀ k, k ≠ gv → w12a.heap[k]? = w11.heap[k]? := fun k hk => by rw [← hw12a]; exact setCells_block _ _ _ _ _ hk
        have hzA : w11.heap.size ≤ w12a.heap.size := by rw [← hw12a, setCells_size]; exact Nat.le_refl _
        have hBA : Below w10.heap.size w10 w12a := by rw [← hw12a, ← hw11]; exact setCells_below (bAl (bMe w10)) (by omega) _ _
        have U12 : Hid (URow w12a gv 592 (pf L2 N2)) := by rw [← hw12a]; exact hide (U11.out.stored _)
        have T12 : Hid (TrS W w12a bp gp gt L2 N2 (fun k => k = gs ∨ k = gc) L N) := hide ((T9.out.after hb10).after hBA)
        have V12 : Hid (VRow w12a gs (stV x ad cd)) := hide (V11.out.of hzA (hbA _ (by omega)))
        have C12 : Hid (w12a.cell? ⟨gc, 0, none⟩ = some (.int .i64 (cN x))) := hide ((World.cell?_of_block (w := w11) (a := ⟨gc, 0, none⟩) (hbA gc (by omega))).trans C11.out)
        obtain ⟨w12, hw12⟩ : ∃ w12, w12a.setCells gt 0 (rowU 592 (pf L2 N2)) = w12 := ⟨_, rfl⟩
        have T13 : Hid (TrS W w12 bp gp gt L2 N2 (fun k => k = gs ∨ k = gc) L2 N2) := by rw [← hw12]; exact hide (T12.out.put HGT.out.1 HGT.out.2.1 L2 N2)
        have V13 : Hid (VRow w12 gs (stV x ad cd)) := by rw [← hw12]; exact hide (V12.out.setO nst _)
        have C13 : Hid (w12.cell? ⟨gc, 0, none⟩ = some (.int .i64 (cN x))) := by
          rw [← hw12]
          exact hide ((World.cell?_of_block (w := w12a) (a := ⟨gc, 0, none⟩) (setCells_block _ _ _ _ _ (Ne.symm nct))).trans C12.out)
        have HT12 := hide T12.out.tb
        clear T9 V9 C9 T11 V11 C11 V12 C12 T12 hb10 hgv1 hbA hzA hBA
        go_wp2_with (first | (refine wpList_load_mid rfl 37 _ rfl gv 0 rfl (rowU 592 (pf L2 N2)) _ ?hr Tryz.underlying37 rfl (info_pv _) ?_; (case hr => exact U12.out.range)) | (refine wpList_store_mid rfl 37 _ _ rfl gv 0 (rowU 592 (pf L2 N2)).toArray rfl rfl ?hr (info_pvA _) (rowU_oneA _ _) ?_; (case hr => exact U11.out.thereA _); try simp only [List.toList_toArray]; try rw [hw12a]) | (refine wpList_store_mid rfl 37 _ _ rfl gt 0 (rowU 592 (pf L2 N2)).toArray rfl rfl ?hr (info_pvA _) (rowU_oneA _ _) ?_; (case hr => exact HT12.out.thereA _); try simp only [List.toList_toArray]; try rw [hw12]))
        have TT := hide (T13.out.after (bMe w12).drew)
        have XX : Hid ((fun w1 => w1.cell? ⟨gc, 0, none⟩ = some (.int .i64 (cN x)) ∧ VRow w1 gs (stV x ad cd) ∧ w1.cell? ⟨gp, 0, none⟩ = some (.pointer (some ⟨bp, 0, none⟩)) ∧ URow w1 gt 592 (pf L2 N2)) w12.drew) := hide ⟨C13.out, V13.out.of (Nat.le_refl _) rfl, T13.out.cp, T13.out.tb.dn 1⟩
        clear T13 V13 C13 hw11 hw12a hw12 U11 U12 HT12 hgv
        obtain ⟨SB, hSB⟩ : ∃ SB, strOfNums (pairT L2 N2) = SB := ⟨_, rfl⟩
        by_cases h16 : 16 ≤ f
        · have h15 : (15 : Int) < (f : Int) := by omega
          have ec : cN x = 0 := by unfold cN; rw [if_pos (.inl (by omega))]
          rw [ec] at XX
          refine wp_region_held_drew (S := fun w1 => w1.cell? ⟨gc, 0, none⟩ = some (.int .i64 0) ∧ VRow w1 gs (stV x ad cd) ∧ w1.cell? ⟨gp, 0, none⟩ = some (.pointer (some ⟨bp, 0, none⟩)) ∧ URow w1 gt 592 (pf L2 N2)) (by kernel_rfl) XX.out (fun _ => ?_)
          generalize w12.drew = w13 at *
          refine tk0 (v := .int .i64 E) (by kernel_rfl) (by kernel_rfl) (by kernel_rfl) (fun _ _ _ h => h) XX.out (Or.inl ⟨by rfl, fun w hw => by go_simp; try (with_reducible rfl)⟩) ?_
          simp only [Act.put, List.setIfInBounds_toArray, List.set_cons_zero, List.set_cons_succ]
          refine tk1 (v := .int .i64 E) (by kernel_rfl) (by kernel_rfl) (by kernel_rfl) (fun _ _ _ h => h) XX.out (Or.inl ⟨by rfl, fun w hw => by go_simp; try (with_reducible rfl)⟩) ?_
          simp only [Act.put, List.setIfInBounds_toArray, List.set_cons_zero, List.set_cons_succ]
          refine tk2 (v := .bool false) (by kernel_rfl) (by kernel_rfl) (by kernel_rfl) (fun _ _ _ h => h) XX.out (Or.inl ⟨by rfl, fun w hw => by go_simp; try simp; try (with_reducible rfl)⟩) ?_
          simp only [Act.put, List.setIfInBounds_toArray, List.set_cons_zero, List.set_cons_succ]
          refine tk3 (v := .bool false) (by kernel_rfl) (by kernel_rfl) (by kernel_rfl) (fun _ _ _ h => h) XX.out (Or.inl ⟨by rfl, fun w hw => by go_simp; try (with_reducible rfl)⟩) ?_
          simp only [Act.put, List.setIfInBounds_toArray, List.set_cons_zero, List.set_cons_succ]
          refine tk4 (v := .int .i64 0) (by kernel_rfl) (by kernel_rfl) (by kernel_rfl) (fun _ _ _ h => h) XX.out (Or.inl ⟨by rfl, fun w hw => by have c := hw.1; go_simp; try (with_reducible rfl)⟩) ?_
          simp only [Act.put, List.setIfInBounds_toArray, List.set_cons_zero, List.set_cons_succ]
          refine tk5 (v := .bool false) (by kernel_rfl) (by kernel_rfl) (by kernel_rfl) (fun _ _ _ h => h) XX.out (Or.inl ⟨by rfl, fun w hw => by go_simp; try simp; try (with_reducible rfl)⟩) ?_
          simp only [Act.put, List.setIfInBounds_toArray, List.set_cons_zero, List.set_cons_succ]
          refine tk6 (v := .bool false) (by kernel_rfl) (by kernel_rfl) (by kernel_rfl) (fun _ _ _ h => h) XX.out (Or.inl ⟨by rfl, fun w hw => by go_simp; try (with_reducible rfl)⟩) ?_
          simp only [Act.put, List.setIfInBounds_toArray, List.set_cons_zero, List.set_cons_succ]
          refine tk7 (v := .bool false) (by kernel_rfl) (by kernel_rfl) (by kernel_rfl) (fun _ _ _ h => h) XX.out (Or.inl ⟨by rfl, fun w hw => by go_simp; try (with_reducible rfl)⟩) ?_
          simp only [Act.put, List.setIfInBounds_toArray, List.set_cons_zero, List.set_cons_succ]
          refine tk8 (v := .int .i64 0) (by kernel_rfl) (by kernel_rfl) (by kernel_rfl) (fun _ _ _ h => h) XX.out (Or.inl ⟨by rfl, fun w hw => by have c := hw.1; go_simp; try (with_reducible rfl)⟩) ?_
          simp only [Act.put, List.setIfInBounds_toArray, List.set_cons_zero, List.set_cons_succ]
          refine tk9 (v := .bool true) (by kernel_rfl) (by kernel_rfl) (by kernel_rfl) (fun _ _ _ h => h) XX.out (Or.inl ⟨by rfl, fun w hw => by go_simp; try simp; try (with_reducible rfl)⟩) ?_
          simp only [Act.put, List.setIfInBounds_toArray, List.set_cons_zero, List.set_cons_succ]
          refine tk10 (v := .pointer (some ⟨gs, 0, none⟩)) (by kernel_rfl) (by kernel_rfl) (by kernel_rfl) (fun _ _ _ h => h) XX.out (Or.inl ⟨by rfl, fun w hw => by go_simp; try (with_reducible rfl)⟩) ?_
          simp only [Act.put, List.setIfInBounds_toArray, List.set_cons_zero, List.set_cons_succ]
          refine tk11 (v := .int .u8 (f : Int)) (by kernel_rfl) (by kernel_rfl) (by kernel_rfl) (fun _ _ _ h => h) XX.out (Or.inl ⟨by rfl, fun w hw => by have c := hw.2.1.cell 0 rfl; rw [hf] at c; go_simp; try (with_reducible rfl)⟩) ?_
          simp only [Act.put, List.setIfInBounds_toArray, List.set_cons_zero, List.set_cons_succ]
          refine tk12 (v := .bool true) (by kernel_rfl) (by kernel_rfl) (by kernel_rfl) (fun _ _ _ h => h) XX.out (Or.inl ⟨by rfl, fun w hw => by go_simp; try simp [h15]; try (with_reducible rfl)⟩) ?_
          simp only [Act.put, List.setIfInBounds_toArray, List.set_cons_zero, List.set_cons_succ]
          refine tk13 (v := .bool true) (by kernel_rfl) (by kernel_rfl) (by kernel_rfl) (fun _ _ _ h => h) XX.out (Or.inl ⟨by rfl, fun w hw => by go_simp; try (with_reducible rfl)⟩) ?_
          simp only [Act.put, List.setIfInBounds_toArray, List.set_cons_zero, List.set_cons_succ]
          refine tk14 (v := undef) (by kernel_rfl) (by kernel_rfl) (by kernel_rfl) (fun _ _ _ h => h) XX.out (Or.inr ⟨by rfl, rfl⟩) ?_
          simp only [Act.put, List.setIfInBounds_toArray, List.set_cons_zero, List.set_cons_succ]
          refine tk15 (v := undef) (by kernel_rfl) (by kernel_rfl) (by kernel_rfl) (fun _ _ _ h => h) XX.out (Or.inr ⟨by rfl, rfl⟩) ?_
          simp only [Act.put, List.setIfInBounds_toArray, List.set_cons_zero, List.set_cons_succ]
          refine tk16 (v := undef) (by kernel_rfl) (by kernel_rfl) (by kernel_rfl) (fun _ _ _ h => h) XX.out (Or.inr ⟨by rfl, rfl⟩) ?_
          simp only [Act.put, List.setIfInBounds_toArray, List.set_cons_zero, List.set_cons_succ]
          refine tk17 (v := .bool true) (by kernel_rfl) (by kernel_rfl) (by kernel_rfl) (fun _ _ _ h => h) XX.out (Or.inl ⟨by rfl, fun w hw => by go_simp; try (with_reducible rfl)⟩) ?_
          simp only [Act.put, List.setIfInBounds_toArray, List.set_cons_zero, List.set_cons_succ]
          refine tk18 (v := .bool false) (by kernel_rfl) (by kernel_rfl) (by kernel_rfl) (fun _ _ _ h => h) XX.out (Or.inl ⟨by rfl, fun w hw => by go_simp; try simp; try (with_reducible rfl)⟩) ?_
          simp only [Act.put, List.setIfInBounds_toArray, List.set_cons_zero, List.set_cons_succ]
          refine tk19 (v := .bool false) (by kernel_rfl) (by kernel_rfl) (by kernel_rfl) (fun _ _ _ h => h) XX.out (Or.inl ⟨by rfl, fun w hw => by go_simp; try (with_reducible rfl)⟩) ?_
          simp only [Act.put, List.setIfInBounds_toArray, List.set_cons_zero, List.set_cons_succ]
          refine tk20 (v := .bool false) (by kernel_rfl) (by kernel_rfl) (by kernel_rfl) (fun _ _ _ h => h) XX.out (Or.inl ⟨by rfl, fun w hw => by go_simp; try (with_reducible rfl)⟩) ?_
          simp only [Act.put, List.setIfInBounds_toArray, List.set_cons_zero, List.set_cons_succ]
          refine tk21 (v := .pointer (some ⟨bp, 0, none⟩)) (by kernel_rfl) (by kernel_rfl) (by kernel_rfl) (fun _ _ _ h => h) XX.out (Or.inl ⟨by rfl, fun w hw => by have c := hw.2.2.1; go_simp; try (with_reducible rfl)⟩) ?_
          simp only [Act.put, List.setIfInBounds_toArray, List.set_cons_zero, List.set_cons_succ]
          refine tk24 (by kernel_rfl) (by kernel_rfl) (by kernel_rfl) (fun _ _ _ h => h) XX.out (yieldsIf_load_mid (by rfl) _ _ rfl (gt) (0) rfl (rowU 592 (pf L2 N2)) _ (fun _ hw => hw.2.2.2.range) Tryz.underlying37 rfl (info_pv _)) ?_
          simp only [Act.put, List.setIfInBounds_toArray, List.set_cons_zero, List.set_cons_succ]
          refine wpAnyH_ready (rs := [22]) (by kernel_rfl) (by simp) ?_
          refine rd22 (fun K hK => ?_) AllReadyH.nil
          go_simp
          refine (bytes14_any TT.out.pq (by omega)).mono ?_
          rintro e w14 ⟨v, rfl, hv, hb14⟩
          simp only []
          obtain ⟨so, c2, rfl, _⟩ := hv.cell
          have hat := hv.at
          replace TT := hide (TT.out.after hb14)
          replace XX : Hid ((fun w1 => w1.cell? ⟨gc, 0, none⟩ = some (.int .i64 0) ∧ VRow w1 gs (stV x ad cd) ∧ w1.cell? ⟨gp, 0, none⟩ = some (.pointer (some ⟨bp, 0, none⟩)) ∧ URow w1 gt 592 (pf L2 N2)) w14 ∧ At w14 so (pairT L2 N2)) := ⟨⟨((bcell hb14).1 _ _ (cell_lt XX.out.1)).trans XX.out.1, XX.out.2.1.after hb14 rfl, ((bcell hb14).1 _ _ (cell_lt XX.out.2.2.1)).trans XX.out.2.2.1, XX.out.2.2.2.after hb14 rfl⟩, hat.1⟩
          clear hv hb14 hat
          refine hK.out _ _ XX.out.1 (fun _ => ?_)
          clear hK K
          refine hand_more (S' := fun w1 => (fun w1 => w1.cell? ⟨gc, 0, none⟩ = some (.int .i64 0) ∧ VRow w1 gs (stV x ad cd) ∧ w1.cell? ⟨gp, 0, none⟩ = some (.pointer (some ⟨bp, 0, none⟩)) ∧ URow w1 gt 592 (pf L2 N2)) w1 ∧ At w1 so (pairT L2 N2)) (fun _ h => h.1) _ _ _ _ ?_
          refine tk23 (v := .string SB) (by kernel_rfl) (by kernel_rfl) (by kernel_rfl) (fun _ _ _ h => h) XX.out (Or.inl ⟨by rfl, fun w hw => by have c := hw.2.str c2; rw [hSB] at c; go_simp; try exact c; try (with_reducible rfl)⟩) ?_
          simp only [Act.put, List.setIfInBounds_toArray, List.set_cons_zero, List.set_cons_succ]
          refine wpAnyH_ready (rs := [25]) (by kernel_rfl) (by simp) ?_
          refine rd25 (fun K hK => ?_) AllReadyH.nil
          go_simp
          refine (text14_any (L := L2) (N := N2) (fun s hs => (TT.out.pq.goodL s hs).1) TT.out.pq.nl TT.out.pq.nb w14).mono ?_
          rintro e w15 ⟨rfl, hb15⟩
          simp only []
          rw [hSB]
          replace TT := hide (TT.out.after hb15)
          replace XX : Hid ((fun w1 => w1.cell? ⟨gc, 0, none⟩ = some (.int .i64 0) ∧ VRow w1 gs (stV x ad cd) ∧ w1.cell? ⟨gp, 0, none⟩ = some (.pointer (some ⟨bp, 0, none⟩)) ∧ URow w1 gt 592 (pf L2 N2)) w15 ∧ At w15 so (pairT L2 N2)) := ⟨⟨((bcell hb15).1 _ _ (cell_lt XX.out.1.1)).trans XX.out.1.1, XX.out.1.2.1.after hb15 rfl, ((bcell hb15).1 _ _ (cell_lt XX.out.1.2.2.1)).trans XX.out.1.2.2.1, XX.out.1.2.2.2.after hb15 rfl⟩, XX.out.2.below hb15⟩
          clear hb15
          refine hK.out _ _ XX.out (fun _ => ?_)
          clear hK K
          refine tk26 (v := .bool false) (by kernel_rfl) (by kernel_rfl) (by kernel_rfl) (fun _ _ _ h => h) XX.out (Or.inl ⟨by rfl, fun w hw => by go_simp; try simp; try (with_reducible rfl)⟩) ?_
          simp only [Act.put, List.setIfInBounds_toArray, List.set_cons_zero, List.set_cons_succ]
          refine tk27 (v := .bool false) (by kernel_rfl) (by kernel_rfl) (by kernel_rfl) (fun _ _ _ h => h) XX.out (Or.inl ⟨by rfl, fun w hw => by go_simp; try (with_reducible rfl)⟩) ?_
          simp only [Act.put, List.setIfInBounds_toArray, List.set_cons_zero, List.set_cons_succ]
          refine wpAnyH_done (by kernel_rfl) ?_ _
          clear XX
          have TD := hide TT.out.drop
          clear TT
          go_wp2
          go_loopw [74] (fun q wi => ∃ s : Nat, s ≤ 2 ∧ q = .int .u8 s ∧ TrS W wi bp gp gt L2 N2 (fun _ => False) L2 N2) (fun q _ => (2 - intOf q).toNat)
          case atStart => exact ⟨0, by omega, rfl, TD.out⟩
          case round =>
            obtain ⟨s, hs, rfl, ht⟩ := hrel
            clear TD
            have TD := hide ht
            clear ht
            by_cases hls : s < 2
            · have hs1 : (s : Int) < 2 := by omega
              go_wp2
              have T17 := hide (TD.out.after (bMe wr).drew)
              refine wp_region_held_drew (S := fun w1 => w1.cell? ⟨gp, 0, none⟩ = some (.pointer (some ⟨bp, 0, none⟩)) ∧ URow w1 gt 592 (pf L2 N2)) (by kernel_rfl) ⟨T17.out.cp, T17.out.tb⟩ (fun _ => ?_)
              generalize wr.drew = w17 at *
              refine tk0 (v := .pointer (some ⟨bp, 0, none⟩)) (by kernel_rfl) (by kernel_rfl) (by kernel_rfl) (fun _ _ _ h => h) ⟨T17.out.cp, T17.out.tb⟩ (Or.inl ⟨by rfl, fun w hw => by have c := hw.1; go_simp; try (with_reducible rfl)⟩) ?_
              simp only [Act.put, List.setIfInBounds_toArray, List.set_cons_zero, List.set_cons_succ]
              refine tk1 (v := .int .u8 (s : Int)) (by kernel_rfl) (by kernel_rfl) (by kernel_rfl) (fun _ _ _ h => h) ⟨T17.out.cp, T17.out.tb⟩ (Or.inl ⟨by rfl, fun w hw => by go_simp; try (with_reducible rfl)⟩) ?_
              simp only [Act.put, List.setIfInBounds_toArray, List.set_cons_zero, List.set_cons_succ]
              refine tk3 (v := .int .u8 (s : Int)) (by kernel_rfl) (by kernel_rfl) (by kernel_rfl) (fun _ _ _ h => h) ⟨T17.out.cp, T17.out.tb⟩ (Or.inl ⟨by rfl, fun w hw => by go_simp; try (with_reducible rfl)⟩) ?_
              simp only [Act.put, List.setIfInBounds_toArray, List.set_cons_zero, List.set_cons_succ]
              refine tk4 (v := .pointer (some ⟨gt, 0, none⟩)) (by kernel_rfl) (by kernel_rfl) (by kernel_rfl) (fun _ _ _ h => h) ⟨T17.out.cp, T17.out.tb⟩ (Or.inl ⟨by rfl, fun w hw => by go_simp; try (with_reducible rfl)⟩) ?_
              simp only [Act.put, List.setIfInBounds_toArray, List.set_cons_zero, List.set_cons_succ]
              refine tk5 (v := .pointer (some ⟨gt, s * 288, none⟩)) (by kernel_rfl) (by kernel_rfl) (by kernel_rfl) (fun _ _ _ h => h) ⟨T17.out.cp, T17.out.tb⟩ (Or.inl ⟨by rfl, fun w hw => by go_simp; try (with_reducible rfl)⟩) ?_
              simp only [Act.put, List.setIfInBounds_toArray, List.set_cons_zero, List.set_cons_succ]
              refine tk6 (by kernel_rfl) (by kernel_rfl) (by kernel_rfl) (fun _ _ _ h => h) ⟨T17.out.cp, T17.out.tb⟩ (yieldsIf_load_mid (by rfl) _ _ rfl (gt) (s * 288) rfl (rowU 288 (tl (tb (L2 s)))) _ (fun _ hw => hw.2.bookP hls) Tryz.underlying33 rfl (info_tb _)) ?_
              simp only [Act.put, List.setIfInBounds_toArray, List.set_cons_zero, List.set_cons_succ]
              obtain ⟨bj, b, Fr, cb, BB⟩ := T17.out.side hls
              have HBB := hide BB
              clear BB
              refine wpAnyH_ready (rs := [2]) (by kernel_rfl) (by simp) ?_
              refine rd2 (fun K hK => ?_) AllReadyH.nil
              go_simp
              refine (book14_any hls cb).mono ?_
              rintro e w18 ⟨rfl, rfl⟩
              simp only []
              refine hK.out _ _ ⟨T17.out.cp, T17.out.tb⟩ (fun _ => ?_)
              clear hK K cb
              refine wpAnyH_ready (rs := [7]) (by kernel_rfl) (by simp) ?_
              refine rd7 (fun K hK => ?_) AllReadyH.nil
              go_simp
              refine (same13_any (h := fun _ => L2 s) HBB.out (by omega)).mono ?_
              rintro e w19 ⟨rfl, hb19⟩
              simp only []
              replace T17 := hide (T17.out.after hb19)
              clear hb19 HBB
              refine hK.out _ _ ⟨T17.out.cp, T17.out.tb⟩ (fun _ => ?_)
              clear hK K
              refine tk8 (v := .bool false) (by kernel_rfl) (by kernel_rfl) (by kernel_rfl) (fun _ _ _ h => h) ⟨T17.out.cp, T17.out.tb⟩ (Or.inl ⟨by rfl, fun w hw => by go_simp; try (with_reducible rfl)⟩) ?_
              simp only [Act.put, List.setIfInBounds_toArray, List.set_cons_zero, List.set_cons_succ]
              refine wpAnyH_done (by kernel_rfl) ?_ _
              go_wp2
              go_roundw
              case rel => exact ⟨s + 1, by omega, by simp, T17.out⟩
              case measure => simp [intOf]; omega
            · obtain rfl : s = 2 := by omega
              go_wp2
              go_roundw
              case rel => exact ⟨i + 1, L2, N2, by omega, by simp, TD.out, HN2.out⟩
              case measure => simp [intOf]; omega
        · have h15 : (f : Int) ≤ 15 := by omega
          by_cases hn : x.n = 0
          · skip
            have ec : cN x = 1 := by unfold cN; rw [if_neg (by rintro (h | h); omega; exact h hn)]
            rw [ec] at XX
            refine wp_region_held_drew (S := fun w1 => w1.cell? ⟨gc, 0, none⟩ = some (.int .i64 1) ∧ VRow w1 gs (stV x ad cd) ∧ w1.cell? ⟨gp, 0, none⟩ = some (.pointer (some ⟨bp, 0, none⟩)) ∧ URow w1 gt 592 (pf L2 N2)) (by kernel_rfl) XX.out (fun _ => ?_)
            generalize w12.drew = w13 at *
            refine tk0 (v := .int .i64 E) (by kernel_rfl) (by kernel_rfl) (by kernel_rfl) (fun _ _ _ h => h) XX.out (Or.inl ⟨by rfl, fun w hw => by go_simp; try (with_reducible rfl)⟩) ?_
            simp only [Act.put, List.setIfInBounds_toArray, List.set_cons_zero, List.set_cons_succ]
            refine tk1 (v := .int .i64 E) (by kernel_rfl) (by kernel_rfl) (by kernel_rfl) (fun _ _ _ h => h) XX.out (Or.inl ⟨by rfl, fun w hw => by go_simp; try (with_reducible rfl)⟩) ?_
            simp only [Act.put, List.setIfInBounds_toArray, List.set_cons_zero, List.set_cons_succ]
            refine tk2 (v := .bool false) (by kernel_rfl) (by kernel_rfl) (by kernel_rfl) (fun _ _ _ h => h) XX.out (Or.inl ⟨by rfl, fun w hw => by go_simp; try simp; try (with_reducible rfl)⟩) ?_
            simp only [Act.put, List.setIfInBounds_toArray, List.set_cons_zero, List.set_cons_succ]
            refine tk3 (v := .bool false) (by kernel_rfl) (by kernel_rfl) (by kernel_rfl) (fun _ _ _ h => h) XX.out (Or.inl ⟨by rfl, fun w hw => by go_simp; try (with_reducible rfl)⟩) ?_
            simp only [Act.put, List.setIfInBounds_toArray, List.set_cons_zero, List.set_cons_succ]
            refine tk4 (v := .int .i64 1) (by kernel_rfl) (by kernel_rfl) (by kernel_rfl) (fun _ _ _ h => h) XX.out (Or.inl ⟨by rfl, fun w hw => by have c := hw.1; go_simp; try (with_reducible rfl)⟩) ?_
            simp only [Act.put, List.setIfInBounds_toArray, List.set_cons_zero, List.set_cons_succ]
            refine tk5 (v := .bool false) (by kernel_rfl) (by kernel_rfl) (by kernel_rfl) (fun _ _ _ h => h) XX.out (Or.inl ⟨by rfl, fun w hw => by go_simp; try simp; try (with_reducible rfl)⟩) ?_
            simp only [Act.put, List.setIfInBounds_toArray, List.set_cons_zero, List.set_cons_succ]
            refine tk6 (v := .bool false) (by kernel_rfl) (by kernel_rfl) (by kernel_rfl) (fun _ _ _ h => h) XX.out (Or.inl ⟨by rfl, fun w hw => by go_simp; try (with_reducible rfl)⟩) ?_
            simp only [Act.put, List.setIfInBounds_toArray, List.set_cons_zero, List.set_cons_succ]
            refine tk7 (v := .bool false) (by kernel_rfl) (by kernel_rfl) (by kernel_rfl) (fun _ _ _ h => h) XX.out (Or.inl ⟨by rfl, fun w hw => by go_simp; try (with_reducible rfl)⟩) ?_
            simp only [Act.put, List.setIfInBounds_toArray, List.set_cons_zero, List.set_cons_succ]
            refine tk8 (v := .int .i64 1) (by kernel_rfl) (by kernel_rfl) (by kernel_rfl) (fun _ _ _ h => h) XX.out (Or.inl ⟨by rfl, fun w hw => by have c := hw.1; go_simp; try (with_reducible rfl)⟩) ?_
            simp only [Act.put, List.setIfInBounds_toArray, List.set_cons_zero, List.set_cons_succ]
            refine tk9 (v := .bool false) (by kernel_rfl) (by kernel_rfl) (by kernel_rfl) (fun _ _ _ h => h) XX.out (Or.inl ⟨by rfl, fun w hw => by go_simp; try simp; try (with_reducible rfl)⟩) ?_
            simp only [Act.put, List.setIfInBounds_toArray, List.set_cons_zero, List.set_cons_succ]
            refine tk10 (v := .pointer (some ⟨gs, 0, none⟩)) (by kernel_rfl) (by kernel_rfl) (by kernel_rfl) (fun _ _ _ h => h) XX.out (Or.inl ⟨by rfl, fun w hw => by go_simp; try (with_reducible rfl)⟩) ?_
            simp only [Act.put, List.setIfInBounds_toArray, List.set_cons_zero, List.set_cons_succ]
            refine tk11 (v := .int .u8 (f : Int)) (by kernel_rfl) (by kernel_rfl) (by kernel_rfl) (fun _ _ _ h => h) XX.out (Or.inl ⟨by rfl, fun w hw => by have c := hw.2.1.cell 0 rfl; rw [hf] at c; go_simp; try (with_reducible rfl)⟩) ?_
            simp only [Act.put, List.setIfInBounds_toArray, List.set_cons_zero, List.set_cons_succ]
            refine tk12 (v := .bool false) (by kernel_rfl) (by kernel_rfl) (by kernel_rfl) (fun _ _ _ h => h) XX.out (Or.inl ⟨by rfl, fun w hw => by go_simp; try simp [h15]; try (with_reducible rfl)⟩) ?_
            simp only [Act.put, List.setIfInBounds_toArray, List.set_cons_zero, List.set_cons_succ]
            refine tk13 (v := .bool false) (by kernel_rfl) (by kernel_rfl) (by kernel_rfl) (fun _ _ _ h => h) XX.out (Or.inl ⟨by rfl, fun w hw => by go_simp; try (with_reducible rfl)⟩) ?_
            simp only [Act.put, List.setIfInBounds_toArray, List.set_cons_zero, List.set_cons_succ]
            refine tk14 (v := .pointer (some ⟨gs, 1, none⟩)) (by kernel_rfl) (by kernel_rfl) (by kernel_rfl) (fun _ _ _ h => h) XX.out (Or.inl ⟨by rfl, fun w hw => by go_simp; try (with_reducible rfl)⟩) ?_
            simp only [Act.put, List.setIfInBounds_toArray, List.set_cons_zero, List.set_cons_succ]
            refine tk15 (v := .int .u64 0) (by kernel_rfl) (by kernel_rfl) (by kernel_rfl) (fun _ _ _ h => h) XX.out (Or.inl ⟨by rfl, fun w hw => by have c := hw.2.1.cell 1 rfl; rw [hn] at c; go_simp; try (with_reducible rfl)⟩) ?_
            simp only [Act.put, List.setIfInBounds_toArray, List.set_cons_zero, List.set_cons_succ]
            refine tk16 (v := .bool false) (by kernel_rfl) (by kernel_rfl) (by kernel_rfl) (fun _ _ _ h => h) XX.out (Or.inl ⟨by rfl, fun w hw => by go_simp; try simp; try (with_reducible rfl)⟩) ?_
            simp only [Act.put, List.setIfInBounds_toArray, List.set_cons_zero, List.set_cons_succ]
            refine tk17 (v := .bool false) (by kernel_rfl) (by kernel_rfl) (by kernel_rfl) (fun _ _ _ h => h) XX.out (Or.inl ⟨by rfl, fun w hw => by go_simp; try (with_reducible rfl)⟩) ?_
            simp only [Act.put, List.setIfInBounds_toArray, List.set_cons_zero, List.set_cons_succ]
            refine tk18 (v := .bool false) (by kernel_rfl) (by kernel_rfl) (by kernel_rfl) (fun _ _ _ h => h) XX.out (Or.inl ⟨by rfl, fun w hw => by go_simp; try simp; try (with_reducible rfl)⟩) ?_
            simp only [Act.put, List.setIfInBounds_toArray, List.set_cons_zero, List.set_cons_succ]
            refine tk19 (v := .bool false) (by kernel_rfl) (by kernel_rfl) (by kernel_rfl) (fun _ _ _ h => h) XX.out (Or.inl ⟨by rfl, fun w hw => by go_simp; try (with_reducible rfl)⟩) ?_
            simp only [Act.put, List.setIfInBounds_toArray, List.set_cons_zero, List.set_cons_succ]
            refine tk20 (v := .bool false) (by kernel_rfl) (by kernel_rfl) (by kernel_rfl) (fun _ _ _ h => h) XX.out (Or.inl ⟨by rfl, fun w hw => by go_simp; try (with_reducible rfl)⟩) ?_
            simp only [Act.put, List.setIfInBounds_toArray, List.set_cons_zero, List.set_cons_succ]
            refine tk21 (v := .pointer (some ⟨bp, 0, none⟩)) (by kernel_rfl) (by kernel_rfl) (by kernel_rfl) (fun _ _ _ h => h) XX.out (Or.inl ⟨by rfl, fun w hw => by have c := hw.2.2.1; go_simp; try (with_reducible rfl)⟩) ?_
            simp only [Act.put, List.setIfInBounds_toArray, List.set_cons_zero, List.set_cons_succ]
            refine tk24 (by kernel_rfl) (by kernel_rfl) (by kernel_rfl) (fun _ _ _ h => h) XX.out (yieldsIf_load_mid (by rfl) _ _ rfl (gt) (0) rfl (rowU 592 (pf L2 N2)) _ (fun _ hw => hw.2.2.2.range) Tryz.underlying37 rfl (info_pv _)) ?_
            simp only [Act.put, List.setIfInBounds_toArray, List.set_cons_zero, List.set_cons_succ]
            refine wpAnyH_ready (rs := [22]) (by kernel_rfl) (by simp) ?_
            refine rd22 (fun K hK => ?_) AllReadyH.nil
            go_simp
            refine (bytes14_any TT.out.pq (by omega)).mono ?_
            rintro e w14 ⟨v, rfl, hv, hb14⟩
            simp only []
            obtain ⟨so, c2, rfl, _⟩ := hv.cell
            have hat := hv.at
            replace TT := hide (TT.out.after hb14)
            replace XX : Hid ((fun w1 => w1.cell? ⟨gc, 0, none⟩ = some (.int .i64 1) ∧ VRow w1 gs (stV x ad cd) ∧ w1.cell? ⟨gp, 0, none⟩ = some (.pointer (some ⟨bp, 0, none⟩)) ∧ URow w1 gt 592 (pf L2 N2)) w14 ∧ At w14 so (pairT L2 N2)) := ⟨⟨((bcell hb14).1 _ _ (cell_lt XX.out.1)).trans XX.out.1, XX.out.2.1.after hb14 rfl, ((bcell hb14).1 _ _ (cell_lt XX.out.2.2.1)).trans XX.out.2.2.1, XX.out.2.2.2.after hb14 rfl⟩, hat.1⟩
            clear hv hb14 hat
            refine hK.out _ _ XX.out.1 (fun _ => ?_)
            clear hK K
            refine hand_more (S' := fun w1 => (fun w1 => w1.cell? ⟨gc, 0, none⟩ = some (.int .i64 1) ∧ VRow w1 gs (stV x ad cd) ∧ w1.cell? ⟨gp, 0, none⟩ = some (.pointer (some ⟨bp, 0, none⟩)) ∧ URow w1 gt 592 (pf L2 N2)) w1 ∧ At w1 so (pairT L2 N2)) (fun _ h => h.1) _ _ _ _ ?_
            refine tk23 (v := .string SB) (by kernel_rfl) (by kernel_rfl) (by kernel_rfl) (fun _ _ _ h => h) XX.out (Or.inl ⟨by rfl, fun w hw => by have c := hw.2.str c2; rw [hSB] at c; go_simp; try exact c; try (with_reducible rfl)⟩) ?_
            simp only [Act.put, List.setIfInBounds_toArray, List.set_cons_zero, List.set_cons_succ]
            refine wpAnyH_ready (rs := [25]) (by kernel_rfl) (by simp) ?_
            refine rd25 (fun K hK => ?_) AllReadyH.nil
            go_simp
            refine (text14_any (L := L2) (N := N2) (fun s hs => (TT.out.pq.goodL s hs).1) TT.out.pq.nl TT.out.pq.nb w14).mono ?_
            rintro e w15 ⟨rfl, hb15⟩
            simp only []
            rw [hSB]
            replace TT := hide (TT.out.after hb15)
            replace XX : Hid ((fun w1 => w1.cell? ⟨gc, 0, none⟩ = some (.int .i64 1) ∧ VRow w1 gs (stV x ad cd) ∧ w1.cell? ⟨gp, 0, none⟩ = some (.pointer (some ⟨bp, 0, none⟩)) ∧ URow w1 gt 592 (pf L2 N2)) w15 ∧ At w15 so (pairT L2 N2)) := ⟨⟨((bcell hb15).1 _ _ (cell_lt XX.out.1.1)).trans XX.out.1.1, XX.out.1.2.1.after hb15 rfl, ((bcell hb15).1 _ _ (cell_lt XX.out.1.2.2.1)).trans XX.out.1.2.2.1, XX.out.1.2.2.2.after hb15 rfl⟩, XX.out.2.below hb15⟩
            clear hb15
            refine hK.out _ _ XX.out (fun _ => ?_)
            clear hK K
            refine tk26 (v := .bool false) (by kernel_rfl) (by kernel_rfl) (by kernel_rfl) (fun _ _ _ h => h) XX.out (Or.inl ⟨by rfl, fun w hw => by go_simp; try simp; try (with_reducible rfl)⟩) ?_
            simp only [Act.put, List.setIfInBounds_toArray, List.set_cons_zero, List.set_cons_succ]
            refine tk27 (v := .bool false) (by kernel_rfl) (by kernel_rfl) (by kernel_rfl) (fun _ _ _ h => h) XX.out (Or.inl ⟨by rfl, fun w hw => by go_simp; try (with_reducible rfl)⟩) ?_
            simp only [Act.put, List.setIfInBounds_toArray, List.set_cons_zero, List.set_cons_succ]
            refine wpAnyH_done (by kernel_rfl) ?_ _
            clear XX
            have TD := hide TT.out.drop
            clear TT
            go_wp2
            go_loopw [74] (fun q wi => ∃ s : Nat, s ≤ 2 ∧ q = .int .u8 s ∧ TrS W wi bp gp gt L2 N2 (fun _ => False) L2 N2) (fun q _ => (2 - intOf q).toNat)
            case atStart => exact ⟨0, by omega, rfl, TD.out⟩
            case round =>
              obtain ⟨s, hs, rfl, ht⟩ := hrel
              clear TD
              have TD := hide ht
              clear ht
              by_cases hls : s < 2
              · have hs1 : (s : Int) < 2 := by omega
                go_wp2
                have T17 := hide (TD.out.after (bMe wr).drew)
                refine wp_region_held_drew (S := fun w1 => w1.cell? ⟨gp, 0, none⟩ = some (.pointer (some ⟨bp, 0, none⟩)) ∧ URow w1 gt 592 (pf L2 N2)) (by kernel_rfl) ⟨T17.out.cp, T17.out.tb⟩ (fun _ => ?_)
                generalize wr.drew = w17 at *
                refine tk0 (v := .pointer (some ⟨bp, 0, none⟩)) (by kernel_rfl) (by kernel_rfl) (by kernel_rfl) (fun _ _ _ h => h) ⟨T17.out.cp, T17.out.tb⟩ (Or.inl ⟨by rfl, fun w hw => by have c := hw.1; go_simp; try (with_reducible rfl)⟩) ?_
                simp only [Act.put, List.setIfInBounds_toArray, List.set_cons_zero, List.set_cons_succ]
                refine tk1 (v := .int .u8 (s : Int)) (by kernel_rfl) (by kernel_rfl) (by kernel_rfl) (fun _ _ _ h => h) ⟨T17.out.cp, T17.out.tb⟩ (Or.inl ⟨by rfl, fun w hw => by go_simp; try (with_reducible rfl)⟩) ?_
                simp only [Act.put, List.setIfInBounds_toArray, List.set_cons_zero, List.set_cons_succ]
                refine tk3 (v := .int .u8 (s : Int)) (by kernel_rfl) (by kernel_rfl) (by kernel_rfl) (fun _ _ _ h => h) ⟨T17.out.cp, T17.out.tb⟩ (Or.inl ⟨by rfl, fun w hw => by go_simp; try (with_reducible rfl)⟩) ?_
                simp only [Act.put, List.setIfInBounds_toArray, List.set_cons_zero, List.set_cons_succ]
                refine tk4 (v := .pointer (some ⟨gt, 0, none⟩)) (by kernel_rfl) (by kernel_rfl) (by kernel_rfl) (fun _ _ _ h => h) ⟨T17.out.cp, T17.out.tb⟩ (Or.inl ⟨by rfl, fun w hw => by go_simp; try (with_reducible rfl)⟩) ?_
                simp only [Act.put, List.setIfInBounds_toArray, List.set_cons_zero, List.set_cons_succ]
                refine tk5 (v := .pointer (some ⟨gt, s * 288, none⟩)) (by kernel_rfl) (by kernel_rfl) (by kernel_rfl) (fun _ _ _ h => h) ⟨T17.out.cp, T17.out.tb⟩ (Or.inl ⟨by rfl, fun w hw => by go_simp; try (with_reducible rfl)⟩) ?_
                simp only [Act.put, List.setIfInBounds_toArray, List.set_cons_zero, List.set_cons_succ]
                refine tk6 (by kernel_rfl) (by kernel_rfl) (by kernel_rfl) (fun _ _ _ h => h) ⟨T17.out.cp, T17.out.tb⟩ (yieldsIf_load_mid (by rfl) _ _ rfl (gt) (s * 288) rfl (rowU 288 (tl (tb (L2 s)))) _ (fun _ hw => hw.2.bookP hls) Tryz.underlying33 rfl (info_tb _)) ?_
                simp only [Act.put, List.setIfInBounds_toArray, List.set_cons_zero, List.set_cons_succ]
                obtain ⟨bj, b, Fr, cb, BB⟩ := T17.out.side hls
                have HBB := hide BB
                clear BB
                refine wpAnyH_ready (rs := [2]) (by kernel_rfl) (by simp) ?_
                refine rd2 (fun K hK => ?_) AllReadyH.nil
                go_simp
                refine (book14_any hls cb).mono ?_
                rintro e w18 ⟨rfl, rfl⟩
                simp only []
                refine hK.out _ _ ⟨T17.out.cp, T17.out.tb⟩ (fun _ => ?_)
                clear hK K cb
                refine wpAnyH_ready (rs := [7]) (by kernel_rfl) (by simp) ?_
                refine rd7 (fun K hK => ?_) AllReadyH.nil
                go_simp
                refine (same13_any (h := fun _ => L2 s) HBB.out (by omega)).mono ?_
                rintro e w19 ⟨rfl, hb19⟩
                simp only []
                replace T17 := hide (T17.out.after hb19)
                clear hb19 HBB
                refine hK.out _ _ ⟨T17.out.cp, T17.out.tb⟩ (fun _ => ?_)
                clear hK K
                refine tk8 (v := .bool false) (by kernel_rfl) (by kernel_rfl) (by kernel_rfl) (fun _ _ _ h => h) ⟨T17.out.cp, T17.out.tb⟩ (Or.inl ⟨by rfl, fun w hw => by go_simp; try (with_reducible rfl)⟩) ?_
                simp only [Act.put, List.setIfInBounds_toArray, List.set_cons_zero, List.set_cons_succ]
                refine wpAnyH_done (by kernel_rfl) ?_ _
                go_wp2
                go_roundw
                case rel => exact ⟨s + 1, by omega, by simp, T17.out⟩
                case measure => simp [intOf]; omega
              · obtain rfl : s = 2 := by omega
                go_wp2
                go_roundw
                case rel => exact ⟨i + 1, L2, N2, by omega, by simp, TD.out, HN2.out⟩
                case measure => simp [intOf]; omega
          · have hnz : (x.n == 0) = false := by simp [hn]
            have ec : cN x = 0 := by unfold cN; rw [if_pos (.inr hn)]
            rw [ec] at XX
            refine wp_region_held_drew (S := fun w1 => w1.cell? ⟨gc, 0, none⟩ = some (.int .i64 0) ∧ VRow w1 gs (stV x ad cd) ∧ w1.cell? ⟨gp, 0, none⟩ = some (.pointer (some ⟨bp, 0, none⟩)) ∧ URow w1 gt 592 (pf L2 N2)) (by kernel_rfl) XX.out (fun _ => ?_)
            generalize w12.drew = w13 at *
            refine tk0 (v := .int .i64 E) (by kernel_rfl) (by kernel_rfl) (by kernel_rfl) (fun _ _ _ h => h) XX.out (Or.inl ⟨by rfl, fun w hw => by go_simp; try (with_reducible rfl)⟩) ?_
            simp only [Act.put, List.setIfInBounds_toArray, List.set_cons_zero, List.set_cons_succ]
            refine tk1 (v := .int .i64 E) (by kernel_rfl) (by kernel_rfl) (by kernel_rfl) (fun _ _ _ h => h) XX.out (Or.inl ⟨by rfl, fun w hw => by go_simp; try (with_reducible rfl)⟩) ?_
            simp only [Act.put, List.setIfInBounds_toArray, List.set_cons_zero, List.set_cons_succ]
            refine tk2 (v := .bool false) (by kernel_rfl) (by kernel_rfl) (by kernel_rfl) (fun _ _ _ h => h) XX.out (Or.inl ⟨by rfl, fun w hw => by go_simp; try simp; try (with_reducible rfl)⟩) ?_
            simp only [Act.put, List.setIfInBounds_toArray, List.set_cons_zero, List.set_cons_succ]
            refine tk3 (v := .bool false) (by kernel_rfl) (by kernel_rfl) (by kernel_rfl) (fun _ _ _ h => h) XX.out (Or.inl ⟨by rfl, fun w hw => by go_simp; try (with_reducible rfl)⟩) ?_
            simp only [Act.put, List.setIfInBounds_toArray, List.set_cons_zero, List.set_cons_succ]
            refine tk4 (v := .int .i64 0) (by kernel_rfl) (by kernel_rfl) (by kernel_rfl) (fun _ _ _ h => h) XX.out (Or.inl ⟨by rfl, fun w hw => by have c := hw.1; go_simp; try (with_reducible rfl)⟩) ?_
            simp only [Act.put, List.setIfInBounds_toArray, List.set_cons_zero, List.set_cons_succ]
            refine tk5 (v := .bool false) (by kernel_rfl) (by kernel_rfl) (by kernel_rfl) (fun _ _ _ h => h) XX.out (Or.inl ⟨by rfl, fun w hw => by go_simp; try simp; try (with_reducible rfl)⟩) ?_
            simp only [Act.put, List.setIfInBounds_toArray, List.set_cons_zero, List.set_cons_succ]
            refine tk6 (v := .bool false) (by kernel_rfl) (by kernel_rfl) (by kernel_rfl) (fun _ _ _ h => h) XX.out (Or.inl ⟨by rfl, fun w hw => by go_simp; try (with_reducible rfl)⟩) ?_
            simp only [Act.put, List.setIfInBounds_toArray, List.set_cons_zero, List.set_cons_succ]
            refine tk7 (v := .bool false) (by kernel_rfl) (by kernel_rfl) (by kernel_rfl) (fun _ _ _ h => h) XX.out (Or.inl ⟨by rfl, fun w hw => by go_simp; try (with_reducible rfl)⟩) ?_
            simp only [Act.put, List.setIfInBounds_toArray, List.set_cons_zero, List.set_cons_succ]
            refine tk8 (v := .int .i64 0) (by kernel_rfl) (by kernel_rfl) (by kernel_rfl) (fun _ _ _ h => h) XX.out (Or.inl ⟨by rfl, fun w hw => by have c := hw.1; go_simp; try (with_reducible rfl)⟩) ?_
            simp only [Act.put, List.setIfInBounds_toArray, List.set_cons_zero, List.set_cons_succ]
            refine tk9 (v := .bool true) (by kernel_rfl) (by kernel_rfl) (by kernel_rfl) (fun _ _ _ h => h) XX.out (Or.inl ⟨by rfl, fun w hw => by go_simp; try simp; try (with_reducible rfl)⟩) ?_
            simp only [Act.put, List.setIfInBounds_toArray, List.set_cons_zero, List.set_cons_succ]
            refine tk10 (v := .pointer (some ⟨gs, 0, none⟩)) (by kernel_rfl) (by kernel_rfl) (by kernel_rfl) (fun _ _ _ h => h) XX.out (Or.inl ⟨by rfl, fun w hw => by go_simp; try (with_reducible rfl)⟩) ?_
            simp only [Act.put, List.setIfInBounds_toArray, List.set_cons_zero, List.set_cons_succ]
            refine tk11 (v := .int .u8 (f : Int)) (by kernel_rfl) (by kernel_rfl) (by kernel_rfl) (fun _ _ _ h => h) XX.out (Or.inl ⟨by rfl, fun w hw => by have c := hw.2.1.cell 0 rfl; rw [hf] at c; go_simp; try (with_reducible rfl)⟩) ?_
            simp only [Act.put, List.setIfInBounds_toArray, List.set_cons_zero, List.set_cons_succ]
            refine tk12 (v := .bool false) (by kernel_rfl) (by kernel_rfl) (by kernel_rfl) (fun _ _ _ h => h) XX.out (Or.inl ⟨by rfl, fun w hw => by go_simp; try simp [h15]; try (with_reducible rfl)⟩) ?_
            simp only [Act.put, List.setIfInBounds_toArray, List.set_cons_zero, List.set_cons_succ]
            refine tk13 (v := .bool false) (by kernel_rfl) (by kernel_rfl) (by kernel_rfl) (fun _ _ _ h => h) XX.out (Or.inl ⟨by rfl, fun w hw => by go_simp; try (with_reducible rfl)⟩) ?_
            simp only [Act.put, List.setIfInBounds_toArray, List.set_cons_zero, List.set_cons_succ]
            refine tk14 (v := .pointer (some ⟨gs, 1, none⟩)) (by kernel_rfl) (by kernel_rfl) (by kernel_rfl) (fun _ _ _ h => h) XX.out (Or.inl ⟨by rfl, fun w hw => by go_simp; try (with_reducible rfl)⟩) ?_
            simp only [Act.put, List.setIfInBounds_toArray, List.set_cons_zero, List.set_cons_succ]
            refine tk15 (v := .int .u64 x.n) (by kernel_rfl) (by kernel_rfl) (by kernel_rfl) (fun _ _ _ h => h) XX.out (Or.inl ⟨by rfl, fun w hw => by have c := hw.2.1.cell 1 rfl; go_simp; try (with_reducible rfl)⟩) ?_
            simp only [Act.put, List.setIfInBounds_toArray, List.set_cons_zero, List.set_cons_succ]
            refine tk16 (v := .bool true) (by kernel_rfl) (by kernel_rfl) (by kernel_rfl) (fun _ _ _ h => h) XX.out (Or.inl ⟨by rfl, fun w hw => by go_simp; try simp [hnz]; try (with_reducible rfl)⟩) ?_
            simp only [Act.put, List.setIfInBounds_toArray, List.set_cons_zero, List.set_cons_succ]
            refine tk17 (v := .bool true) (by kernel_rfl) (by kernel_rfl) (by kernel_rfl) (fun _ _ _ h => h) XX.out (Or.inl ⟨by rfl, fun w hw => by go_simp; try (with_reducible rfl)⟩) ?_
            simp only [Act.put, List.setIfInBounds_toArray, List.set_cons_zero, List.set_cons_succ]
            refine tk18 (v := .bool false) (by kernel_rfl) (by kernel_rfl) (by kernel_rfl) (fun _ _ _ h => h) XX.out (Or.inl ⟨by rfl, fun w hw => by go_simp; try simp; try (with_reducible rfl)⟩) ?_
            simp only [Act.put, List.setIfInBounds_toArray, List.set_cons_zero, List.set_cons_succ]
            refine tk19 (v := .bool false) (by kernel_rfl) (by kernel_rfl) (by kernel_rfl) (fun _ _ _ h => h) XX.out (Or.inl ⟨by rfl, fun w hw => by go_simp; try (with_reducible rfl)⟩) ?_
            simp only [Act.put, List.setIfInBounds_toArray, List.set_cons_zero, List.set_cons_succ]
            refine tk20 (v := .bool false) (by kernel_rfl) (by kernel_rfl) (by kernel_rfl) (fun _ _ _ h => h) XX.out (Or.inl ⟨by rfl, fun w hw => by go_simp; try (with_reducible rfl)⟩) ?_
            simp only [Act.put, List.setIfInBounds_toArray, List.set_cons_zero, List.set_cons_succ]
            refine tk21 (v := .pointer (some ⟨bp, 0, none⟩)) (by kernel_rfl) (by kernel_rfl) (by kernel_rfl) (fun _ _ _ h => h) XX.out (Or.inl ⟨by rfl, fun w hw => by have c := hw.2.2.1; go_simp; try (with_reducible rfl)⟩) ?_
            simp only [Act.put, List.setIfInBounds_toArray, List.set_cons_zero, List.set_cons_succ]
            refine tk24 (by kernel_rfl) (by kernel_rfl) (by kernel_rfl) (fun _ _ _ h => h) XX.out (yieldsIf_load_mid (by rfl) _ _ rfl (gt) (0) rfl (rowU 592 (pf L2 N2)) _ (fun _ hw => hw.2.2.2.range) Tryz.underlying37 rfl (info_pv _)) ?_
            simp only [Act.put, List.setIfInBounds_toArray, List.set_cons_zero, List.set_cons_succ]
            refine wpAnyH_ready (rs := [22]) (by kernel_rfl) (by simp) ?_
            refine rd22 (fun K hK => ?_) AllReadyH.nil
            go_simp
            refine (bytes14_any TT.out.pq (by omega)).mono ?_
            rintro e w14 ⟨v, rfl, hv, hb14⟩
            simp only []
            obtain ⟨so, c2, rfl, _⟩ := hv.cell
            have hat := hv.at
            replace TT := hide (TT.out.after hb14)
            replace XX : Hid ((fun w1 => w1.cell? ⟨gc, 0, none⟩ = some (.int .i64 0) ∧ VRow w1 gs (stV x ad cd) ∧ w1.cell? ⟨gp, 0, none⟩ = some (.pointer (some ⟨bp, 0, none⟩)) ∧ URow w1 gt 592 (pf L2 N2)) w14 ∧ At w14 so (pairT L2 N2)) := ⟨⟨((bcell hb14).1 _ _ (cell_lt XX.out.1)).trans XX.out.1, XX.out.2.1.after hb14 rfl, ((bcell hb14).1 _ _ (cell_lt XX.out.2.2.1)).trans XX.out.2.2.1, XX.out.2.2.2.after hb14 rfl⟩, hat.1⟩
            clear hv hb14 hat
            refine hK.out _ _ XX.out.1 (fun _ => ?_)
            clear hK K
            refine hand_more (S' := fun w1 => (fun w1 => w1.cell? ⟨gc, 0, none⟩ = some (.int .i64 0) ∧ VRow w1 gs (stV x ad cd) ∧ w1.cell? ⟨gp, 0, none⟩ = some (.pointer (some ⟨bp, 0, none⟩)) ∧ URow w1 gt 592 (pf L2 N2)) w1 ∧ At w1 so (pairT L2 N2)) (fun _ h => h.1) _ _ _ _ ?_
            refine tk23 (v := .string SB) (by kernel_rfl) (by kernel_rfl) (by kernel_rfl) (fun _ _ _ h => h) XX.out (Or.inl ⟨by rfl, fun w hw => by have c := hw.2.str c2; rw [hSB] at c; go_simp; try exact c; try (with_reducible rfl)⟩) ?_
            simp only [Act.put, List.setIfInBounds_toArray, List.set_cons_zero, List.set_cons_succ]
            refine wpAnyH_ready (rs := [25]) (by kernel_rfl) (by simp) ?_
            refine rd25 (fun K hK => ?_) AllReadyH.nil
            go_simp
            refine (text14_any (L := L2) (N := N2) (fun s hs => (TT.out.pq.goodL s hs).1) TT.out.pq.nl TT.out.pq.nb w14).mono ?_
            rintro e w15 ⟨rfl, hb15⟩
            simp only []
            rw [hSB]
            replace TT := hide (TT.out.after hb15)
            replace XX : Hid ((fun w1 => w1.cell? ⟨gc, 0, none⟩ = some (.int .i64 0) ∧ VRow w1 gs (stV x ad cd) ∧ w1.cell? ⟨gp, 0, none⟩ = some (.pointer (some ⟨bp, 0, none⟩)) ∧ URow w1 gt 592 (pf L2 N2)) w15 ∧ At w15 so (pairT L2 N2)) := ⟨⟨((bcell hb15).1 _ _ (cell_lt XX.out.1.1)).trans XX.out.1.1, XX.out.1.2.1.after hb15 rfl, ((bcell hb15).1 _ _ (cell_lt XX.out.1.2.2.1)).trans XX.out.1.2.2.1, XX.out.1.2.2.2.after hb15 rfl⟩, XX.out.2.below hb15⟩
            clear hb15
            refine hK.out _ _ XX.out (fun _ => ?_)
            clear hK K
            refine tk26 (v := .bool false) (by kernel_rfl) (by kernel_rfl) (by kernel_rfl) (fun _ _ _ h => h) XX.out (Or.inl ⟨by rfl, fun w hw => by go_simp; try simp; try (with_reducible rfl)⟩) ?_
            simp only [Act.put, List.setIfInBounds_toArray, List.set_cons_zero, List.set_cons_succ]
            refine tk27 (v := .bool false) (by kernel_rfl) (by kernel_rfl) (by kernel_rfl) (fun _ _ _ h => h) XX.out (Or.inl ⟨by rfl, fun w hw => by go_simp; try (with_reducible rfl)⟩) ?_
            simp only [Act.put, List.setIfInBounds_toArray, List.set_cons_zero, List.set_cons_succ]
            refine wpAnyH_done (by kernel_rfl) ?_ _
            clear XX
            have TD := hide TT.out.drop
            clear TT
            go_wp2
            go_loopw [74] (fun q wi => ∃ s : Nat, s ≤ 2 ∧ q = .int .u8 s ∧ TrS W wi bp gp gt L2 N2 (fun _ => False) L2 N2) (fun q _ => (2 - intOf q).toNat)
            case atStart => exact ⟨0, by omega, rfl, TD.out⟩
            case round =>
              obtain ⟨s, hs, rfl, ht⟩ := hrel
              clear TD
              have TD := hide ht
              clear ht
              by_cases hls : s < 2
              · have hs1 : (s : Int) < 2 := by omega
                go_wp2
                have T17 := hide (TD.out.after (bMe wr).drew)
                refine wp_region_held_drew (S := fun w1 => w1.cell? ⟨gp, 0, none⟩ = some (.pointer (some ⟨bp, 0, none⟩)) ∧ URow w1 gt 592 (pf L2 N2)) (by kernel_rfl) ⟨T17.out.cp, T17.out.tb⟩ (fun _ => ?_)
                generalize wr.drew = w17 at *
                refine tk0 (v := .pointer (some ⟨bp, 0, none⟩)) (by kernel_rfl) (by kernel_rfl) (by kernel_rfl) (fun _ _ _ h => h) ⟨T17.out.cp, T17.out.tb⟩ (Or.inl ⟨by rfl, fun w hw => by have c := hw.1; go_simp; try (with_reducible rfl)⟩) ?_
                simp only [Act.put, List.setIfInBounds_toArray, List.set_cons_zero, List.set_cons_succ]
                refine tk1 (v := .int .u8 (s : Int)) (by kernel_rfl) (by kernel_rfl) (by kernel_rfl) (fun _ _ _ h => h) ⟨T17.out.cp, T17.out.tb⟩ (Or.inl ⟨by rfl, fun w hw => by go_simp; try (with_reducible rfl)⟩) ?_
                simp only [Act.put, List.setIfInBounds_toArray, List.set_cons_zero, List.set_cons_succ]
                refine tk3 (v := .int .u8 (s : Int)) (by kernel_rfl) (by kernel_rfl) (by kernel_rfl) (fun _ _ _ h => h) ⟨T17.out.cp, T17.out.tb⟩ (Or.inl ⟨by rfl, fun w hw => by go_simp; try (with_reducible rfl)⟩) ?_
                simp only [Act.put, List.setIfInBounds_toArray, List.set_cons_zero, List.set_cons_succ]
                refine tk4 (v := .pointer (some ⟨gt, 0, none⟩)) (by kernel_rfl) (by kernel_rfl) (by kernel_rfl) (fun _ _ _ h => h) ⟨T17.out.cp, T17.out.tb⟩ (Or.inl ⟨by rfl, fun w hw => by go_simp; try (with_reducible rfl)⟩) ?_
                simp only [Act.put, List.setIfInBounds_toArray, List.set_cons_zero, List.set_cons_succ]
                refine tk5 (v := .pointer (some ⟨gt, s * 288, none⟩)) (by kernel_rfl) (by kernel_rfl) (by kernel_rfl) (fun _ _ _ h => h) ⟨T17.out.cp, T17.out.tb⟩ (Or.inl ⟨by rfl, fun w hw => by go_simp; try (with_reducible rfl)⟩) ?_
                simp only [Act.put, List.setIfInBounds_toArray, List.set_cons_zero, List.set_cons_succ]
                refine tk6 (by kernel_rfl) (by kernel_rfl) (by kernel_rfl) (fun _ _ _ h => h) ⟨T17.out.cp, T17.out.tb⟩ (yieldsIf_load_mid (by rfl) _ _ rfl (gt) (s * 288) rfl (rowU 288 (tl (tb (L2 s)))) _ (fun _ hw => hw.2.bookP hls) Tryz.underlying33 rfl (info_tb _)) ?_
                simp only [Act.put, List.setIfInBounds_toArray, List.set_cons_zero, List.set_cons_succ]
                obtain ⟨bj, b, Fr, cb, BB⟩ := T17.out.side hls
                have HBB := hide BB
                clear BB
                refine wpAnyH_ready (rs := [2]) (by kernel_rfl) (by simp) ?_
                refine rd2 (fun K hK => ?_) AllReadyH.nil
                go_simp
                refine (book14_any hls cb).mono ?_
                rintro e w18 ⟨rfl, rfl⟩
                simp only []
                refine hK.out _ _ ⟨T17.out.cp, T17.out.tb⟩ (fun _ => ?_)
                clear hK K cb
                refine wpAnyH_ready (rs := [7]) (by kernel_rfl) (by simp) ?_
                refine rd7 (fun K hK => ?_) AllReadyH.nil
                go_simp
                refine (same13_any (h := fun _ => L2 s) HBB.out (by omega)).mono ?_
                rintro e w19 ⟨rfl, hb19⟩
                simp only []
                replace T17 := hide (T17.out.after hb19)
                clear hb19 HBB
                refine hK.out _ _ ⟨T17.out.cp, T17.out.tb⟩ (fun _ => ?_)
                clear hK K
                refine tk8 (v := .bool false) (by kernel_rfl) (by kernel_rfl) (by kernel_rfl) (fun _ _ _ h => h) ⟨T17.out.cp, T17.out.tb⟩ (Or.inl ⟨by rfl, fun w hw => by go_simp; try (with_reducible rfl)⟩) ?_
                simp only [Act.put, List.setIfInBounds_toArray, List.set_cons_zero, List.set_cons_succ]
                refine wpAnyH_done (by kernel_rfl) ?_ _
                go_wp2
                go_roundw
                case rel => exact ⟨s + 1, by omega, by simp, T17.out⟩
                case measure => simp [intOf]; omega
              · obtain rfl : s = 2 := by omega
                go_wp2
                go_roundw
                case rel => exact ⟨i + 1, L2, N2, by omega, by simp, TD.out, HN2.out⟩
                case measure => simp [intOf]; omega
      · obtain rfl : i = xs.length := by omega
        have HT := hide ht.pq.be
        have cp0 := ht.cp
        clear ht
        go_wp2_with fail
        refine (bookNo_any (s := 2) (by omega) (by omega)).mono ?_
        rintro e w5 ⟨rfl, rfl⟩
        go_wp2_with fail
        refine (nonceNo_any (a := 16) (by omega) (by omega)).mono ?_
        rintro e w6 ⟨rfl, rfl⟩
        go_wp2
        go_ret
        exact ⟨rfl, HT.out⟩
end Go.Proofs.YtncnilplmklccaaGreat
