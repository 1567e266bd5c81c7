/- What PairTries' function does. -/
import Derived.Test.YtncnilplmklccaaGreatPrRun
namespace Go.Proofs.YtncnilplmklccaaGreat
set_option linter.unusedSimpArgs false
set_option linter.unusedVariables false
open Go.RowKit Go.Lib
attribute [local go_sem] setCell_drewN alloc_drewN

set_option maxHeartbeats 4000000 in
theorem doT_any {W w : World} {bp n : Nat} {P : List Value} {H : Nat → Nat → Kvs} {N : List Int} {Fr : Nat → Prop} {x : Stp} {gs gp gc cd : Nat} {c : Int} {ad : Option Addr} (p : Pr W w bp P n H N Fr) (hx : x.Ok) (hd : Dds W ad x.ds) (hn : n + 2 * x.ds.length ≤ 9000) (fs : Fr gs) (fp : Fr gp) (fc : Fr gc) (hWc : W.heap.size ≤ gc) (ncs : gs ≠ gc) (ncp : gp ≠ gc) (hc : 0 ≤ c ∧ c ≤ 1000)
    (V : VRow w gs (stV x ad cd)) (cp : w.cell? ⟨gp, 0, none⟩ = some (.pointer (some ⟨bp, 0, none⟩))) (cc : w.cell? ⟨gc, 0, none⟩ = some (.int .i64 c)) (fz : w.frozen? ⟨gc, 0, none⟩ = false) :
    Calls Tryz.prog 9 #[.pointer (some ⟨gc, 0, none⟩), .pointer (some ⟨gs, 0, none⟩), .pointer (some ⟨gp, 0, none⟩)] w fun e w' => DoDone W (w.setCell ⟨gc, 0, none⟩ (.int .i64 (c + 1))) bp P n H N Fr x (bits BinOp.and .i64 x.x 15) e w' := by
  obtain ⟨w1, hw1⟩ : ∃ w1, w.setCell ⟨gc, 0, none⟩ (.int .i64 (c + 1)) = w1 := ⟨_, rfl⟩
  have ho : ∀ k, k ≠ gc → w1.heap[k]? = w.heap[k]? := fun k hk => by rw [← hw1]; exact Below.heap_setCell _ _ _ _ hk
  have hz : w1.heap.size = w.heap.size := by rw [← hw1]; simp [World.setCell]
  have p1 : Pr W w1 bp P n H N Fr := by rw [← hw1]; exact p.box fc hWc cc (fun b e => by cases e) 0
  have V1 : VRow w1 gs (stV x ad cd) := V.of (by rw [hz]; exact Nat.le_refl _) (ho gs ncs)
  have cp1 : w1.cell? ⟨gp, 0, none⟩ = some (.pointer (some ⟨bp, 0, none⟩)) := (World.cell?_of_block (w := w) (a := ⟨gp, 0, none⟩) (ho gp ncp)).trans cp
  have v2 : w1.cell? ⟨gs, 2, none⟩ = some (.slice ad x.ds.length cd) := V1.cell 2 rfl
  have hwc : IntKind.i64.wrap (c + 1) = c + 1 := by rw [IntKind.wrap_i64]; omega
  have HPR := hide p1
  have HV := hide V1
  have HD := hide hd
  rw [hw1]
  clear p V hd p1 V1 ho hz
  go_enter Tryz.func9, Tryz.ntmps9
  go_wp2
  try rw [hw1]
  clear hw1 cc fz cp
  go_loopw [12] (fun t wr => ∃ (k n' : Nat) (H' : Nat → Nat → Kvs), k ≤ x.ds.length ∧ t = .int .i64 k ∧ Pr W wr bp P n' H' N Fr ∧ Kp Fr w1 wr ∧ (rD (fun i => H i n) (x.ds.take k)).1 = 0 ∧ Px n H n' H' (rD (fun i => H i n) (x.ds.take k)).2 (2 * k)) (fun t _ => (x.ds.length - intOf t).toNat)
  case atStart => exact ⟨0, n, H, by omega, rfl, HPR.out, ⟨Nat.le_refl _, fun _ _ => rfl⟩, rfl, Px.refl n H 0⟩
  case round =>
    obtain ⟨k, n', H', hk, rfl, pr, kp, h0, px⟩ := hrel
    clear HPR
    have u2 := (kp.cell fs).trans v2
    have up := (kp.cell fp).trans cp1
    have u3 := (kp.cell fs).trans (HV.out.cell 3 rfl)
    by_cases hlt : k < x.ds.length
    · have hlt1 : (k : Int) < x.ds.length := by omega
      obtain ⟨d, hdk⟩ : ∃ d, x.ds[k]? = some d := ⟨x.ds[k], List.getElem?_eq_getElem hlt⟩
      have hdo := hx.ds d (List.mem_of_getElem? hdk)
      obtain ⟨b, off, rfl, hlb, hr⟩ := HD.out.got pr.be hdk
      have e0 : wr.cell? ⟨b, off + k * 9, none⟩ = some (.int .u8 d.s) := rangeAt_cell hr 0 rfl
      have e1 := rangeAt_cell hr 1 rfl
      have e2 := rangeAt_cell hr 2 rfl
      have e3 := rangeAt_cell hr 3 rfl
      have e4 := rangeAt_cell hr 4 rfl
      have e5 := rangeAt_cell hr 5 rfl
      have e6 := rangeAt_cell hr 6 rfl
      have e7 := rangeAt_cell hr 7 rfl
      have e8 := rangeAt_cell hr 8 rfl
      have htk : x.ds.take (k + 1) = x.ds.take k ++ [d] := by
        rw [List.take_succ_eq_append_getElem hlt]
        rw [List.getElem?_eq_getElem hlt] at hdk
        injection hdk with hdk
        rw [hdk]
      have hlen : wr.heap.size < wr.heap.size + 1 := by omega
      have PRX := hide (And.intro pr (And.intro kp (And.intro h0 px)))
      have lgp : gp < wr.heap.size := cell_lt up
      clear pr kp px h0 hr
      have hnk : n' ≤ 9000 := by have := PRX.out.2.2.2.up; omega
      have C := hide (one14_any (PRX.out.1.below (bAl (o := .cells (ddV d).toArray 47) (bMe wr))) hdo hnk)
      have HC := hide (dE_congr (L := fun i => H' i n') (L' := (rD (fun i => H i n) (x.ds.take k)).2) (d := d) (PRX.out.2.2.2.now d.sd d.sd_lt))
      go_wp2_with fail
      refine C.out.mono ?_
      clear C
      rintro e w3 ⟨rfl, n2, H2, p2, k2, x2⟩
      have K3 : Kp Fr wr w3 := ((PRX.out.1.kp (bAl (o := .cells (ddV d).toArray 47) (bMe wr)))).trans k2
      have X3 : Px n H n2 H2 (upS (rD (fun i => H i n) (x.ds.take k)).2 d.sd (dL (rD (fun i => H i n) (x.ds.take k)).2 d)) (2 * k + 2) := (PRX.out.2.2.2.trans x2).conv (upS_congr (fun s hs => PRX.out.2.2.2.now s hs) HC.out.2) (Nat.le_refl _)
      have N3 := hide (And.intro p2 (And.intro (PRX.out.2.1.trans K3) X3))
      rw [HC.out.1]
      have RS := hide (rD_snoc (x.ds.take k) (fun i => H i n) d PRX.out.2.2.1)
      rw [← htk] at RS
      clear p2 k2 x2 K3 X3 HC PRX htk
      obtain ⟨LL, hLL⟩ : ∃ LL, (rD (fun i => H i n) (x.ds.take k)).2 = LL := ⟨_, rfl⟩
      rw [hLL] at N3 RS ⊢
      obtain ⟨E, hE⟩ : ∃ E, dE LL d = E := ⟨_, rfl⟩
      rw [hE] at RS ⊢
      clear hE hLL e0 e1 e2 e3 e4 e5 e6 e7 e8
      by_cases hE0 : E = 0
      · subst hE0
        go_wp2
        go_roundw
        case rel =>
          refine ⟨k + 1, n2, H2, by omega, by simp, N3.out.1, N3.out.2.1, ?_, ?_⟩
          · rw [RS.out]
          · rw [RS.out]; exact N3.out.2.2
        case measure => simp [intOf]; omega
      · go_wp2
        go_ret
        have e : rD (fun i => H i n) x.ds = (E, upS LL d.sd (dL LL d)) := by
          rw [← RS.out]
          conv => lhs; rw [← List.take_append_drop (k + 1) x.ds]
          exact rD_stop _ _ _ (by rw [RS.out]; exact hE0)
        unfold DoDone
        rw [e, if_neg hE0]
        exact ⟨rfl, n2, H2, N3.out.1, N3.out.2.1, N3.out.2.2.conv (fun _ _ => rfl) (by omega)⟩
    · obtain rfl : k = x.ds.length := by omega
      have PRX := hide (And.intro pr (And.intro kp (And.intro h0 px)))
      clear pr kp px h0
      rw [List.take_length] at PRX
      go_wp2
      go_ret
      obtain ⟨q1, q2, q3, q4⟩ := PRX.out
      unfold DoDone
      rw [q3, if_pos rfl]
      exact ⟨rfl, n', H', q1, q2, q4⟩
theorem enters_tries : ∀ (a : Array Value) w, (callFunc 9 a).run Tryz.prog w = .ok (.enter 9 a) w := fun a w => enters_of Tryz.func9 (by kernel_rfl) rfl a w
/-- Try, of the deeds of a try in a box, counted. -/
theorem tryT_any {W w : World} {bp f gs gp gc cd : Nat} {ad : Option Addr} {L : Nat → Kvs} {N : List Int} {F : Nat → Prop} {x : Stp} {y : Int} (p : PQ W w bp L N F) (hf : f < 16) (hy : N[f]? = some y) (hy1 : y + 1 < 18446744073709551616) (hx : x.Ok) (hlen : x.ds.length ≤ 10) (hd : Dds W ad x.ds) (fs : F gs) (fp : F gp) (fc : F gc) (hWc : W.heap.size ≤ gc) (ncs : gs ≠ gc) (ncp : gp ≠ gc)
    (V : VRow w gs (stV x ad cd)) (cp : w.cell? ⟨gp, 0, none⟩ = some (.pointer (some ⟨bp, 0, none⟩))) (cc : w.cell? ⟨gc, 0, none⟩ = some (.int .i64 0)) (fz : w.frozen? ⟨gc, 0, none⟩ = false) :
    Calls Tryz.prog 7 #[.pointer (some ⟨bp, 0, none⟩), .int .u8 f, .int .u64 y, .func (.func 9) #[] #[.pointer (some ⟨gc, 0, none⟩), .pointer (some ⟨gs, 0, none⟩), .pointer (some ⟨gp, 0, none⟩)]] w fun e w' =>
      e = .returned (.int .i64 (sR L x)) ∧ (sR L x = 0 → PQ W w' bp (rD L x.ds).2 (N.set f (y + 1)) F) ∧ (sR L x ≠ 0 → PQ W w' bp L N F) ∧ Kp (fun k => F k ∧ k ≠ gc) w w' ∧ w'.cell? ⟨gc, 0, none⟩ = some (.int .i64 1) := by
  refine (tryGo_any (D := fun E n' H' w4 w5 => E = sR L x ∧ Kp F (w4.setCell ⟨gc, 0, none⟩ (.int .i64 (0 + 1))) w5 ∧ w4.cell? ⟨gc, 0, none⟩ = some (.int .i64 0) ∧ ∀ s, s < 2 → H' s n' = (rD L x.ds).2 s) (enters_tries _) p hf hy hy1 (fun w4 hb hz p4 => ?_)).mono ?_
  · have lgc := cell_lt cc
    have c4 : w4.cell? ⟨gc, 0, none⟩ = some (.int .i64 0) := ((bcell hb).1 _ _ lgc).trans cc
    refine (doT_any p4 hx hd (by omega) (.inl fs) (.inl fp) (.inl fc) hWc ncs ncp (c := 0) (by omega) (V.of hb.size (hb.block _ V.lt)) (((bcell hb).1 _ _ (cell_lt cp)).trans cp) c4 ((World.frozen?_of_block (w := w) (a := ⟨gc, 0, none⟩) (hb.block gc lgc)).trans fz)).mono ?_
    rintro e w5 ⟨rfl, n', H', q1, q2, q3⟩
    refine ⟨sR L x, n', H', rfl, q1, Nat.zero_le _, by have := q3.up; omega, fun s m hs hm => q3.was s m hs hm, fun k h1 h2 => (q2.2 k (.inr ⟨h1, h2⟩)).trans (Below.heap_setCell _ _ _ _ (show k ≠ gc by omega)), rfl, q2.sub fun _ => .inl, c4, fun s hs => q3.now s hs⟩
  · rintro e w7 ⟨E, n', H', w4, w5, rfl, hb, ⟨rfl, k1, c4, hn⟩, k2, r0, r1⟩
    have k3 : Kp (fun k => F k ∧ k ≠ gc) w4 (w4.setCell ⟨gc, 0, none⟩ (.int .i64 (0 + 1))) := ⟨by simp [World.setCell], fun k hk => Below.heap_setCell _ _ _ _ hk.2⟩
    refine ⟨rfl, fun h => (r0 h).congr fun s m hs _ => hn s hs, r1, (((p.kp hb).sub fun k hk => hk.1).trans k3).trans ((k1.trans k2).sub fun k hk => hk.1), ?_⟩
    rw [(k1.trans k2).cell fc]
    simp [go_sem, c4]
end Go.Proofs.YtncnilplmklccaaGreat
