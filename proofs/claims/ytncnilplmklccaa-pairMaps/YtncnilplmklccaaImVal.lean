/- A map of numbers beside a pair's books: what a try of PairMaps does, all or nothing. A round of PairMaps: the pair, the journal's map, and the map of values beside it, as one fact. -/
import Derived.Test.YtncnilplmklccaaImBack
import Derived.Test.YtncnilplmklccaaPrMem
import Derived.Deep.RegionHeld3
/- A map of numbers beside a pair's books: what a try of PairMaps does, all or nothing. -/
namespace Go.Proofs.Ytncnilplmklccaa.Im
set_option linter.unusedSimpArgs false
set_option linter.unusedVariables false
set_option linter.unusedSectionVars false
open Go.RowKit Go.Lib
attribute [local go_sem] setCell_drewN alloc_drewN

theorem lm_one : lm 1 0 = 1 ∧ lm 1 1 = 0 ∧ lm 1 2 = 0 ∧ lm 1 3 = 0 := by unfold lm; decide
theorem in_one : In 1 := by unfold In; decide
/-- The boxes of a round, as its function captures them. -/
structure Cap (w : World) (bp a gm gx gi gp gf : Nat) (x : Int) (i : Nat) (ao : Option Addr) (fl : List Bool) (cap : Nat) : Prop where
  m : w.cell? ⟨gm, 0, none⟩ = some (.pointer (some ⟨a, 0, none⟩))
  x : w.cell? ⟨gx, 0, none⟩ = some (.int .i64 x)
  i : w.cell? ⟨gi, 0, none⟩ = some (.int .i64 i)
  p : w.cell? ⟨gp, 0, none⟩ = some (.pointer (some ⟨bp, 0, none⟩))
  f : w.cell? ⟨gf, 0, none⟩ = some (.slice ao fl.length cap)
theorem Cap.of {w w' : World} {bp a gm gx gi gp gf : Nat} {x : Int} {i : Nat} {ao : Option Addr} {fl : List Bool} {cap : Nat} (h : Cap w bp a gm gx gi gp gf x i ao fl cap) (hb : ∀ j, j = gm ∨ j = gx ∨ j = gi ∨ j = gp ∨ j = gf → w'.heap[j]? = w.heap[j]?) : Cap w' bp a gm gx gi gp gf x i ao fl cap :=
  ⟨(World.cell?_of_block (w := w) (a := ⟨gm, 0, none⟩) (hb _ (by simp))).trans h.m, (World.cell?_of_block (w := w) (a := ⟨gx, 0, none⟩) (hb _ (by simp))).trans h.x, (World.cell?_of_block (w := w) (a := ⟨gi, 0, none⟩) (hb _ (by simp))).trans h.i, (World.cell?_of_block (w := w) (a := ⟨gp, 0, none⟩) (hb _ (by simp))).trans h.p, (World.cell?_of_block (w := w) (a := ⟨gf, 0, none⟩) (hb _ (by simp))).trans h.f⟩
set_option maxHeartbeats 4000000 in
/-- What the function of a try does: the map's deed, then the book's. -/
theorem do_any {W w : World} {bp a bm gm gx gi gp gf i : Nat} {L0 : Nat → BKs} {N : List Int} {Fr : Nat → Prop} {L : Kvs} {x : Int} {ao : Option Addr} {fl : List Bool} {cap : Nat} {f : Bool} (p : PQ W w bp L0 N Fr) (fa : Fr a) (fm : Fr bm) (lm : W.heap.size ≤ bm) (B : MapBox w a bp bm) (hm : MapIs encS w bm L) (hL : Srt kyInt L) (hlen : L.length ≤ 1000) (hk : (Lit.int .i64 x).wf = true)
    (fs : ∀ j, j = gm ∨ j = gx ∨ j = gi ∨ j = gp ∨ j = gf → Fr j) (C : Cap w bp a gm gx gi gp gf x i ao fl cap) (hV : Vls W ao (tV fl)) (hi : fl[i]? = some f) (hE : mintE (L0 1) 0 2 1 = 0) :
    Calls Try.prog 17 #[.pointer (some ⟨gm, 0, none⟩), .pointer (some ⟨gx, 0, none⟩), .pointer (some ⟨gi, 0, none⟩), .pointer (some ⟨gp, 0, none⟩), .pointer (some ⟨gf, 0, none⟩)] w fun e w' => e = .returned (.int .i64 (if f then 11 else 0)) ∧
      ∃ u F n' H', Pr W w' bp [u] n' H' N (fun j => Fr j ∨ F j) ∧ (∀ j, F j → w.heap.size ≤ j) ∧ MapIs encS w' bm (putL kyInt x i L) ∧ UndoAt w' F a x (getL x L) u ∧ Kp (fun j => Fr j ∧ j ≠ bm) w w' ∧ Px 0 (fun s _ => L0 s) n' H' (upS L0 1 (mintL (L0 1) 0 2 1)) 2 := by
  have nm : ∀ j, j = gm ∨ j = gx ∨ j = gi ∨ j = gp ∨ j = gf → j ≠ bm := fun j hj => by
    rcases hj with rfl | rfl | rfl | rfl | rfl
    · exact (mne hm C.m).symm
    · exact (mne hm C.x).symm
    · exact (mne hm C.i).symm
    · exact (mne hm C.p).symm
    · exact (mne hm C.f).symm
  have hil := (List.getElem?_eq_some_iff.1 hi).1
  have hil1 : (i : Int) < fl.length := by omega
  have hS := hide (set_any (v := (i : Int)) p fa fm lm B hm hL (by omega) hk)
  have cm := C.m
  have cx := C.x
  have ci := C.i
  have HC := hide (And.intro C (And.intro fs nm))
  have HV := hide (And.intro hV hi)
  have HE := hide hE
  obtain ⟨l1, l2, l3, l4⟩ := lm_one
  clear p C B hm hL hV hi hE fs nm
  go_enter Try.func17, Try.ntmps17
  go_wp2_with fail
  refine hS.out.mono ?_
  clear hS cm cx ci
  rintro e w1 ⟨rfl, u, F, p1, hF, hm1, hu1, k1⟩
  have C1 := HC.out.1.of fun j hj => k1.2 j ⟨HC.out.2.1 j hj, HC.out.2.2 j hj⟩
  have cp := C1.p
  have ci := C1.i
  have cf := C1.f
  obtain ⟨bj, b, Fr', cb, Bk1, hsub, hre⟩ := p1.side (s := 1) (by omega)
  have HB := hide (book14_any (s := 1) (by omega) cb)
  have hc := mint_l Bk1 (t := 0) (p := 2) (N := 1) (by omega) (by omega) in_one (by omega)
  have hE1 : mintE (L0 1) 0 2 1 = 0 := HE.out
  simp only [hE1, l1, l2, l3, l4] at hc
  have HM := hide hc
  have H1 := hide (And.intro hF (And.intro hm1 (And.intro hu1 (And.intro k1 (And.intro hsub p1.be)))))
  have HR := hide (fun (w' : World) (n' : Nat) (h' : Nat → BKs) b' k' nx => hre (w' := w') (n' := n') (h' := h') (L := mintL (L0 1) 0 2 1) (c := 2) b' k' nx)
  have C2 := hide C1
  clear p1 hF hm1 hu1 k1 hsub hre hc Bk1 cb hE1 C1 ci cf
  go_wp2_with fail
  refine HB.out.mono ?_
  clear HB
  rintro e w2 ⟨rfl, rfl⟩
  go_wp2_with fail
  refine HM.out.mono ?_
  clear HM cp
  rintro e w3 ⟨rfl, n', h', b3, k3, nx⟩
  obtain ⟨H', p3, kp3, px⟩ := HR.out _ _ _ b3 k3 nx
  clear HR b3 k3 nx
  have hbm : w3.heap[bm]? = w2.heap[bm]? := kp3.2 bm (.inl fm)
  have C3 := C2.out.of fun j hj => kp3.2 j (.inl (HC.out.2.1 j hj))
  have ci := C3.i
  have cf := C3.f
  obtain ⟨bf, off, rfl, lbf, cbf⟩ := HV.out.1.got p3.be (tV_get HV.out.2)
  obtain ⟨hF, hm1, hu1, k1, hsub, be1⟩ := H1.out
  have HZ : Hid (∃ u F n' H', Pr W w3 bp [u] n' H' N (fun j => Fr j ∨ F j) ∧ (∀ j, F j → w.heap.size ≤ j) ∧ MapIs encS w3 bm (putL kyInt x i L) ∧ UndoAt w3 F a x (getL x L) u ∧ Kp (fun j => Fr j ∧ j ≠ bm) w w3 ∧ Px 0 (fun s _ => L0 s) n' H' (upS L0 1 (mintL (L0 1) 0 2 1)) 2) :=
    ⟨u, F, n', H', p3, hF, hm1.of _ hbm, hu1.of fun j hj => kp3.2 j (.inr hj), k1.trans (kp3.sub fun j hj => .inl hj.1), px⟩
  clear hF hm1 hu1 k1 hsub be1 H1 p3 kp3 px hbm C3 C2 HC HV
  cases f
  · go_wp2
    go_ret
    exact ⟨rfl, HZ.out⟩
  · go_wp2
    go_ret
    exact ⟨rfl, HZ.out⟩
set_option maxHeartbeats 4000000 in
/-- What Try defers, where the function refused. -/
theorem endNo_any {w : World} {bp ge gp gm gf : Nat} {E : Int} {T : World → Prop} (HB0 : Calls Try.prog 36 #[.pointer (some ⟨bp, 0, none⟩), .int .i64 0] w.drew fun e w' => e = .returned (.bool true) ∧ T w')
    (kc : ∀ w', T w' → w'.cell? ⟨gp, 0, none⟩ = w.cell? ⟨gp, 0, none⟩ ∧ w'.cell? ⟨gm, 0, none⟩ = w.cell? ⟨gm, 0, none⟩)
    (ce : w.cell? ⟨ge, 0, none⟩ = some (.int .i64 E)) (cp : w.cell? ⟨gp, 0, none⟩ = some (.pointer (some ⟨bp, 0, none⟩))) (cm : w.cell? ⟨gm, 0, none⟩ = some (.int .i64 0)) (hE : E ≠ 0) :
    CallsD Try.prog 35 #[.pointer (some ⟨ge, 0, none⟩), .pointer (some ⟨gp, 0, none⟩), .pointer (some ⟨gm, 0, none⟩), .pointer (some ⟨gf, 0, none⟩)] .returning w fun e u' w' => e = .returned (.tuple #[]) ∧ u' = .returning ∧ T w' := by
  have HB := hide HB0
  have KC := hide kc
  clear HB0 kc
  refine callsD_of_wpS Try.func35 rfl fun c₀ cs hu => ?_
  apply wpS_seq
  apply wpS_region
  simp [wpOpsS, go_sem, recoverD, hu, Try.ntmps35, Exit.thenS]
  refine wpS_of_wp (Code.wp_mono (fun _ _ _ => postS hu) ?_)
  simp only [Array.replicate_succ, Array.replicate_zero, List.push_toArray, List.append_toArray, List.nil_append, List.cons_append]
  simp
  go_wp2
  go_region_held3 (fun w' => w'.cell? ⟨gp, 0, none⟩ = some (.pointer (some ⟨bp, 0, none⟩)) ∧ w'.cell? ⟨gm, 0, none⟩ = some (.int .i64 0)) (first | exact ⟨cp, cm⟩ | exact ⟨(KC.out _ t2).1.trans cp, (KC.out _ t2).2.trans cm⟩) ((go_at_call 36; refine HB.out.mono ?_; rintro e w2 ⟨rfl, t2⟩))
  go_wp2
  refine bodyPost_ret (results_none rfl _ _ _) rfl ?_
  exact ⟨rfl, t2⟩
theorem undo_back {L : Kvs} {k v : Int} (hL : Srt kyInt L) : undoL kyInt ⟨0, k, getL k L⟩ (putL kyInt k v L) = L := by
  unfold undoL
  cases e : getL k L with
  | none => exact delL_put kyInt hL e
  | some u => exact putL_put kyInt hL e
theorem enters_do : ∀ (a : Array Value) w, (callFunc 17 a).run Try.prog w = .ok (.enter 17 a) w := fun a w => enters_of Try.func17 (by kernel_rfl) rfl a w
/-- Where a round's try leads. -/
def TryS (W w w' : World) (bp bm : Nat) (L0 : Nat → BKs) (N : List Int) (Fr : Nat → Prop) (L : Kvs) (x y : Int) (i : Nat) (f : Bool) : Prop :=
  PQ W w' bp (if f then L0 else upS L0 1 (mintL (L0 1) 0 2 1)) (if f then N else N.set 1 (y + 1)) Fr ∧ MapIs encS w' bm (if f then L else putL kyInt x i L) ∧ Kp (fun j => Fr j ∧ j ≠ bm) w w'
set_option maxHeartbeats 4000000 in
theorem tryIm_any {W w : World} {bp a bm gm gx gi gp gf i : Nat} {L0 : Nat → BKs} {N : List Int} {Fr : Nat → Prop} {L : Kvs} {x y : Int} {ao : Option Addr} {fl : List Bool} {cap : Nat} {f : Bool} (p : PQ W w bp L0 N Fr) (fa : Fr a) (fm : Fr bm) (lm : W.heap.size ≤ bm) (B : MapBox w a bp bm) (hm : MapIs encS w bm L) (hL : Srt kyInt L) (hlen : L.length ≤ 1000) (hk : (Lit.int .i64 x).wf = true)
    (fs : ∀ j, j = gm ∨ j = gx ∨ j = gi ∨ j = gp ∨ j = gf → Fr j) (C : Cap w bp a gm gx gi gp gf x i ao fl cap) (hV : Vls W ao (tV fl)) (hi : fl[i]? = some f) (hE : mintE (L0 1) 0 2 1 = 0) (hy : N[1]? = some y) (hy1 : y + 1 < 18446744073709551616) :
    Calls Try.prog 11 #[.pointer (some ⟨bp, 0, none⟩), .int .u8 1, .int .u64 y, .func (.func 17) #[] #[.pointer (some ⟨gm, 0, none⟩), .pointer (some ⟨gx, 0, none⟩), .pointer (some ⟨gi, 0, none⟩), .pointer (some ⟨gp, 0, none⟩), .pointer (some ⟨gf, 0, none⟩)]] w fun e w' => e = .returned (.int .i64 (if f then 11 else 0)) ∧ TryS W w w' bp bm L0 N Fr L x y i f := by
  have hy0 := p.nb y (List.mem_of_getElem? hy)
  have lbm := hm.lt
  refine (try_any (f := 1) (n := 0) (T := fun E w7 => E = (if f then 11 else 0) ∧ TryS W w w7 bp bm L0 N Fr L x y i f) (enters_do _) (by omega) (p.cell hy) (fun w1 hb => ?_) (fun w4 hb hz c0 c1 c3 c2 f2 => ?_)).mono ?_
  · refine (mark14_any (p.below hb)).mono ?_
    rintro e w' ⟨rfl, rfl⟩
    exact ⟨by simp, rfl⟩
  · have p4 := p.add (F := fun k => w.heap.size ≤ k ∧ k < w.heap.size + 4) hb fun k hk => ⟨hk.1, by omega⟩
    have hb4 : ∀ j, Fr j → w4.heap[j]? = w.heap[j]? := fun j hj => hb.block j (p.low j hj)
    refine (do_any p4 (.inl fa) (.inl fm) lm (B.of (hb4 a fa)) (hm.of _ (hb4 bm fm)) hL hlen hk (fun j hj => .inl (fs j hj)) (C.of fun j hj => hb4 j (fs j hj)) hV hi hE).mono ?_
    rintro e w5 ⟨rfl, u, F, n', H', p5, hF, hm5, hu5, k5, px⟩
    have kc : ∀ i o, i < 4 → w5.cell? ⟨w.heap.size + i, o, none⟩ = w4.cell? ⟨w.heap.size + i, o, none⟩ := fun i o hi => k5.cell (k := w.heap.size + i) ⟨.inr ⟨by omega, by omega⟩, by omega⟩
    have d2 : w5.cell? ⟨w.heap.size + 2, 0, none⟩ = some (.int .i64 1) := (kc 2 0 (by omega)).trans c2
    have d0 : w5.cell? ⟨w.heap.size, 0, none⟩ = some (.pointer (some ⟨bp, 0, none⟩)) := (kc 0 0 (by omega)).trans c0
    have d1 : w5.cell? ⟨w.heap.size + 1, 0, none⟩ = some (.int .u8 (1 : Nat)) := (kc 1 0 (by omega)).trans c1
    have d3 : w5.cell? ⟨w.heap.size + 3, 0, none⟩ = some (.int .i64 0) := (kc 3 0 (by omega)).trans c3
    have hf2 : w5.frozen? ⟨w.heap.size + 2, 0, none⟩ = false := (k5.frozen (k := w.heap.size + 2) ⟨.inr ⟨by omega, by omega⟩, by omega⟩).trans f2
    refine ⟨_, rfl, ⟨d2, hf2⟩, ?_⟩
    obtain ⟨E, hEE⟩ : ∃ E : Int, (if f = true then 11 else 0) = E := ⟨_, rfl⟩
    rw [hEE]
    obtain ⟨w6, hw6⟩ : ∃ w6, w5.setCell ⟨w.heap.size + 2, 0, none⟩ (.int .i64 E) = w6 := ⟨_, rfl⟩
    have ho : ∀ k, k ≠ w.heap.size + 2 → w6.heap[k]? = w5.heap[k]? := fun k hk => by rw [← hw6]; exact Below.heap_setCell _ _ _ _ hk
    have hz6 : w6.heap.size = w5.heap.size := by rw [← hw6]; simp [World.setCell]
    have e2 : w6.cell? ⟨w.heap.size + 2, 0, none⟩ = some (.int .i64 E) := by rw [← hw6]; simp [go_sem, d2]
    have ec : ∀ i o, i ≠ 2 → w6.cell? ⟨w.heap.size + i, o, none⟩ = w5.cell? ⟨w.heap.size + i, o, none⟩ := fun i o hi => World.cell?_of_block (w := w5) (a := ⟨w.heap.size + i, o, none⟩) (ho (w.heap.size + i) (by omega))
    have e0 := (ec 0 0 (by omega)).trans d0
    have e1 := (ec 1 0 (by omega)).trans d1
    have e3 := (ec 3 0 (by omega)).trans d3
    have hWw := p.be.size
    have p6 : Pr W w6 bp [u] n' H' N (fun j => (Fr j ∨ (w.heap.size ≤ j ∧ j < w.heap.size + 4)) ∨ F j) := p5.turn (F := fun k => k = w.heap.size + 2) (fun k hk => ⟨.inl (.inr (by omega)), by omega⟩) (fun k v hk hv b e => by subst hk; rw [d2] at hv; cases hv; cases e) (by rw [hz6]; exact Nat.le_refl _) (fun k _ hk => ho k hk) (by rw [← hw6]; exact p5.be.setCell (by simp; omega) _)
    have K56 : Kp Fr w5 w6 := ⟨by rw [hz6]; exact Nat.le_refl _, fun k hk => ho k (by have := p.low k hk; omega)⟩
    have K46 : Kp (fun j => Fr j ∧ j ≠ bm) w w6 := ((p.kp hb).sub fun j hj => hj.1).trans ((k5.sub fun j hj => ⟨.inl hj.1, hj.2⟩).trans (K56.sub fun j hj => hj.1))
    have hm6 : MapIs encS w6 bm (putL kyInt x i L) := hm5.of _ (K56.2 bm fm)
    have hu6 : UndoAt w6 F a x (getL x L) u := hu5.of fun j hj => ho j (by have := hF j hj; omega)
    rw [hw6]
    cases f with
    | true =>
      obtain rfl : 11 = E := hEE
      have ca : w6.drew.cell? ⟨a, 2, none⟩ = some (.map (some bm)) := (K46.cell (k := a) ⟨fa, (mne hm B.c2).symm⟩).trans B.c2
      refine (endNo_any (gf := w.heap.size + 1) (backPr_any (F := F) (p6.below (bMe w6).drew) (by have := px.up; omega) hu6 (fun j hj => .inr hj) (.inl (.inl fa)) (.inl (.inl fm)) lm ca hm6 (hL.put kyInt) (by have := putL_length kyInt (k := x) (v := (i : Int)) (L := L); omega) hk) (fun w' h => ?_) e2 e0 e3 (by omega)).mono ?_
      · exact ⟨h.2.2.cell (k := w.heap.size) ⟨.inl (.inr ⟨by omega, by omega⟩), by omega⟩, h.2.2.cell (k := w.heap.size + 3) ⟨.inl (.inr ⟨by omega, by omega⟩), by omega⟩⟩
      · rintro e u' w7 ⟨rfl, rfl, p7, m7, k7⟩
        refine ⟨rfl, rfl, (k7.cell (k := w.heap.size + 2) ⟨.inl (.inr ⟨by omega, by omega⟩), by omega⟩).trans e2, rfl, ?_, ?_, K46.trans (Kp.drew (k7.sub fun j hj => ⟨.inl (.inl hj.1), hj.2⟩))⟩
        · refine (p7.congr fun s m hs hm0 => ?_).sub fun j hj => .inl (.inl hj)
          obtain rfl : m = 0 := by omega
          exact px.was s 0 hs (Nat.le_refl _)
        · rw [undo_back hL] at m7
          exact m7
    | false =>
      obtain rfl : 0 = E := hEE
      refine (endYes_any (f := 1) (gm := w.heap.size + 3) p6 (.inl (.inr ⟨by omega, by omega⟩)) (.inl (.inr ⟨by omega, by omega⟩)) (by omega) hy ⟨hy0.1, hy1⟩ e2 e0 e1).mono ?_
      rintro e u' w7 ⟨rfl, rfl, p7, k7⟩
      refine ⟨rfl, rfl, (k7.cell (k := w.heap.size + 2) (.inl (.inr ⟨by omega, by omega⟩))).trans e2, rfl, ?_, hm6.of _ (k7.2 bm (.inl (.inl fm))), K46.trans (k7.sub fun j hj => .inl (.inl hj.1))⟩
      exact (p7.congr fun s m hs _ => px.now s hs).sub fun j hj => .inl (.inl hj)
  · rintro e w7 ⟨E, rfl, rfl, h⟩
    exact ⟨rfl, h⟩
end Go.Proofs.Ytncnilplmklccaa.Im

/- A round of PairMaps: the pair, the journal's map, and the map of values beside it, as one fact. -/
namespace Go.Proofs.Ytncnilplmklccaa.Im
set_option linter.unusedSimpArgs false
set_option linter.unusedVariables false
set_option linter.unusedSectionVars false
open Go.RowKit Go.Lib
attribute [local go_sem] setCell_drewN alloc_drewN

theorem atV (k : Int) (L : Kvs) : (Vm.atL Vm.encV k L).2 = fv k L := by
  unfold fv Vm.atL Go.Proofs.Ytncnilplmklccaa.atL
  cases getL k L <;> rfl
theorem val_look {w : World} {b : Nat} {L : Kvs} {k : Int} (h : Vm.MapIs Vm.encV w b L) (hL : Srt kyInt L) (hk : (Lit.int .i64 k).wf = true) :
    (Instr.lookup 49 (.map (some b)) (.int .i64 k) true).run Try.prog w = .ok (.tuple #[.int .i64 (fv k L), .bool (fh k L)]) w := by
  have := Vm.MapIs.look Vm.encV kyInt h hL (k := k) hk
  rw [← atV]
  exact this
theorem val_len {w : World} {b : Nat} {L : Kvs} (h : Vm.MapIs Vm.encV w b L) (ty : TypeId) :
    (Builtin.len_ #[49] ty #[.map (some b)]).run Try.prog w = .ok (.int .i64 L.length) w := Vm.MapIs.len Vm.encV h ty
theorem val_put {w : World} {b : Nat} {L : Kvs} {k v : Int} (h : Vm.MapIs Vm.encV w b L) (hL : Srt kyInt L) (hlen : L.length ≤ 1000) (hk : (Lit.int .i64 k).wf = true) :
    ∃ w', (Instr.mapUpdate 49 (.map (some b)) (.int .i64 k) (.int .i64 v)).run Try.prog w = .ok () w' ∧ Vm.MapIs Vm.encV w' b (putL kyInt k v L) ∧ w.grownBy w' (some b) := by
  obtain ⟨w', h1, h2, h3⟩ := Vm.MapIs.put Vm.encV kyInt h hL (by unfold maxLen; omega) (k := k) hk v
  exact ⟨w', h1, h2, h3.grown⟩
theorem val_ne {w : World} {b c o : Nat} {v : Value} {L : Kvs} (h : Vm.MapIs Vm.encV w b L) (hc : w.cell? ⟨c, o, none⟩ = some v) : b ≠ c := fun e => by
  subst e
  rw [Vm.MapIs.noCell Vm.encV h] at hc
  cases hc
/-- The boxes that are the round's own. -/
def Own8 (a bm bv gm gp gf gi gx : Nat) (j : Nat) : Prop := j = a ∨ j = bm ∨ j = bv ∨ j = gm ∨ j = gp ∨ j = gf ∨ j = gi ∨ j = gx
def Own6 (a bm bv gm gp gf : Nat) (j : Nat) : Prop := j = a ∨ j = bm ∨ j = bv ∨ j = gm ∨ j = gp ∨ j = gf
/-- The pair, the journal's map L, the values' map M; s tries were kept. -/
structure ImS (W w : World) (Fr : Nat → Prop) (bp a bm bv gm gp gf : Nat) (ao : Option Addr) (fl : List Bool) (cap : Nat) (L0 : Nat → BKs) (N : List Int) (L M : Kvs) (s : Int) (i : Nat) : Prop where
  pq : PQ W w bp L0 N Fr
  fr : ∀ j, Own6 a bm bv gm gp gf j → Fr j
  box : MapBox w a bp bm
  map : MapIs encS w bm L
  val : Vm.MapIs Vm.encV w bv M
  ne : bm ≠ bv
  lm : W.heap.size ≤ bm
  lv : W.heap.size ≤ bv
  srt : Srt kyInt L
  len : L.length ≤ i
  srtM : Srt kyInt M
  lenM : M.length ≤ i
  b : bal (L0 1) (0, 2) = s
  u : sup (L0 1) 0 = s
  n : N[1]? = some s
  s : 0 ≤ s ∧ s ≤ i
  cm : w.cell? ⟨gm, 0, none⟩ = some (.pointer (some ⟨a, 0, none⟩))
  cp : w.cell? ⟨gp, 0, none⟩ = some (.pointer (some ⟨bp, 0, none⟩))
  cf : w.cell? ⟨gf, 0, none⟩ = some (.slice ao fl.length cap)
section
variable {W w w' : World} {Fr : Nat → Prop} {bp a bm bv gm gp gf i : Nat} {ao : Option Addr} {fl : List Bool} {cap : Nat} {L0 : Nat → BKs} {N : List Int} {L M : Kvs} {s : Int}
theorem ImS.after (h : ImS W w Fr bp a bm bv gm gp gf ao fl cap L0 N L M s i) (hb : Below w.heap.size w w') : ImS W w' Fr bp a bm bv gm gp gf ao fl cap L0 N L M s i := by
  have k : ∀ j, Own6 a bm bv gm gp gf j → w'.heap[j]? = w.heap[j]? := fun j hj => hb.block j (h.pq.low j (h.fr j hj))
  have c : ∀ j o, Own6 a bm bv gm gp gf j → w'.cell? ⟨j, o, none⟩ = w.cell? ⟨j, o, none⟩ := fun j o hj => World.cell?_of_block (w := w) (a := ⟨j, o, none⟩) (k j hj)
  exact ⟨h.pq.below hb, h.fr, h.box.of (k _ (by simp [Own6])), h.map.of _ (k _ (by simp [Own6])), Vm.MapIs.of Vm.encV h.val (k _ (by simp [Own6])), h.ne, h.lm, h.lv, h.srt, h.len, h.srtM, h.lenM, h.b, h.u, h.n, h.s, (c _ _ (by simp [Own6])).trans h.cm, (c _ _ (by simp [Own6])).trans h.cp, (c _ _ (by simp [Own6])).trans h.cf⟩
theorem ImS.add (h : ImS W w (Own6 a bm bv gm gp gf) bp a bm bv gm gp gf ao fl cap L0 N L M s i) (hb : Below w.heap.size w w') {gi gx : Nat} (hi : w.heap.size ≤ gi ∧ gi < w'.heap.size) (hx : w.heap.size ≤ gx ∧ gx < w'.heap.size) : ImS W w' (Own8 a bm bv gm gp gf gi gx) bp a bm bv gm gp gf ao fl cap L0 N L M s i := by
  have h2 := h.after hb
  refine { h2 with pq := (h.pq.add (F := fun j => j = gi ∨ j = gx) hb fun j hj => by rcases hj with rfl | rfl; exact hi; exact hx).sub fun j hj => ?_, fr := fun j hj => ?_ }
  · unfold Own8 at hj; unfold Own6; simp only [or_assoc]; exact hj
  · unfold Own6 at hj; unfold Own8
    rcases hj with h | h | h | h | h | h <;> simp [h]
theorem ImS.drop {gi gx : Nat} (h : ImS W w (Own8 a bm bv gm gp gf gi gx) bp a bm bv gm gp gf ao fl cap L0 N L M s i) : ImS W w (Own6 a bm bv gm gp gf) bp a bm bv gm gp gf ao fl cap L0 N L M s i :=
  { h with pq := h.pq.sub h.fr, fr := fun j hj => hj }
theorem ImS.more {i' : Nat} (h : ImS W w Fr bp a bm bv gm gp gf ao fl cap L0 N L M s i) (hi : i ≤ i') : ImS W w Fr bp a bm bv gm gp gf ao fl cap L0 N L M s i' :=
  { h with len := Nat.le_trans h.len hi, lenM := Nat.le_trans h.lenM hi, s := ⟨h.s.1, by have := h.s.2; omega⟩ }
/-- The map's block, and that of the values, are no boxes. -/
theorem ImS.far (h : ImS W w Fr bp a bm bv gm gp gf ao fl cap L0 N L M s i) : (a ≠ bm ∧ gm ≠ bm ∧ gp ≠ bm ∧ gf ≠ bm) ∧ (a ≠ bv ∧ gm ≠ bv ∧ gp ≠ bv ∧ gf ≠ bv) :=
  ⟨⟨(mne h.map h.box.c0).symm, (mne h.map h.cm).symm, (mne h.map h.cp).symm, (mne h.map h.cf).symm⟩, (val_ne h.val h.box.c0).symm, (val_ne h.val h.cm).symm, (val_ne h.val h.cp).symm, (val_ne h.val h.cf).symm⟩
/-- Behind a try. -/
theorem ImS.tried {L0' : Nat → BKs} {N' : List Int} {L' : Kvs} {s' : Int} (h : ImS W w Fr bp a bm bv gm gp gf ao fl cap L0 N L M s i) (p : PQ W w' bp L0' N' Fr) (hm : MapIs encS w' bm L') (k : Kp (fun j => Fr j ∧ j ≠ bm) w w') (h1 : Srt kyInt L') (h2 : L'.length ≤ i) (h3 : bal (L0' 1) (0, 2) = s') (h4 : sup (L0' 1) 0 = s') (h5 : N'[1]? = some s') (h6 : 0 ≤ s' ∧ s' ≤ i) : ImS W w' Fr bp a bm bv gm gp gf ao fl cap L0' N' L' M s' i := by
  obtain ⟨⟨f1, f2, f3, f4⟩, _⟩ := h.far
  have fr := fun j hj => h.fr j hj
  exact ⟨p, h.fr, h.box.of (k.2 a ⟨fr a (by simp [Own6]), f1⟩), hm, Vm.MapIs.of Vm.encV h.val (k.2 bv ⟨fr bv (by simp [Own6]), h.ne.symm⟩), h.ne, h.lm, h.lv, h1, h2, h.srtM, h.lenM, h3, h4, h5, h6, (k.cell ⟨fr gm (by simp [Own6]), f2⟩).trans h.cm, (k.cell ⟨fr gp (by simp [Own6]), f3⟩).trans h.cp, (k.cell ⟨fr gf (by simp [Own6]), f4⟩).trans h.cf⟩
/-- Behind a value's being put. -/
theorem ImS.valued {M' : Kvs} (h : ImS W w Fr bp a bm bv gm gp gf ao fl cap L0 N L M s i) (hv : Vm.MapIs Vm.encV w' bv M') (hg : w.grownBy w' (some bv)) (h1 : Srt kyInt M') (h2 : M'.length ≤ i) : ImS W w' Fr bp a bm bv gm gp gf ao fl cap L0 N L M' s i := by
  obtain ⟨_, f1, f2, f3, f4⟩ := h.far
  have k : ∀ j, Own6 a bm bv gm gp gf j → j ≠ bv → w'.heap[j]? = w.heap[j]? := fun j hj hn => hg.block j (h.pq.low j (h.fr j hj)) fun e => hn (by cases e; rfl)
  have c : ∀ j o, Own6 a bm bv gm gp gf j → j ≠ bv → w'.cell? ⟨j, o, none⟩ = w.cell? ⟨j, o, none⟩ := fun j o hj hn => World.cell?_of_block (w := w) (a := ⟨j, o, none⟩) (k j hj hn)
  refine ⟨h.pq.turn (F := fun j => j = bv) (fun j hj => by subst hj; exact ⟨h.fr _ (by simp [Own6]), h.lv⟩) (fun j x hj hx => by subst hj; rw [Vm.MapIs.noCell Vm.encV h.val] at hx; cases hx) hg.size (fun j hj hn => hg.block j hj fun e => hn (by cases e; rfl))
    (Mv.below (S := fun j => j = bv) (S' := fun j => j = bv) ⟨hg.os, hg.tape, hg.output, hg.size, fun j hj hn => hg.block j hj fun e => hn (by cases e; rfl), fun j hj => .inl hj⟩ h.pq.be (fun j hj => by subst hj; exact h.lv)), h.fr, h.box.of (k _ (by simp [Own6]) f1), h.map.of _ (k _ (by simp [Own6]) h.ne), hv, h.ne, h.lm, h.lv, h.srt, h.len, h1, h2, h.b, h.u, h.n, h.s, (c _ _ (by simp [Own6]) f2).trans h.cm, (c _ _ (by simp [Own6]) f3).trans h.cp, (c _ _ (by simp [Own6]) f4).trans h.cf⟩
/-- One is minted: the balance and the supply are one more. -/
theorem mint_one {B : BKs} (hB : Good B) {s : Int} (hb : bal B (0, 2) = s) (hu : sup B 0 = s) (hs : 0 ≤ s ∧ s ≤ 100) : mintE B 0 2 1 = 0 ∧ bal (mintL B 0 2 1) (0, 2) = s + 1 ∧ sup (mintL B 0 2 1) 0 = s + 1 := by
  have hc : chk 0 [2] 1 = 0 := by decide
  have hin : In (sup B 0 + 1) := by rw [hu]; unfold In; omega
  have hE : mintE B 0 2 1 = 0 := by unfold mintE; rw [if_neg (by rw [hc]; simp), if_pos hin]
  have hk : Kin (0, 2) := by unfold Kin; decide
  have eL : mintL B 0 2 1 = addB (0, 2) 1 B := by unfold mintL; rw [if_pos hE]
  refine ⟨hE, ?_, ?_⟩
  · rw [eL]
    unfold addB
    rw [bal_putB hB.1, if_pos rfl, nm_val (add_in hk in_one (by rw [show ((0 : Int), (2 : Int)).1 = 0 from rfl]; exact hin)), hb]
  · rw [eL, sup_addB hB.1 hk in_one hin, if_pos rfl, hu]
end
end Go.Proofs.Ytncnilplmklccaa.Im
