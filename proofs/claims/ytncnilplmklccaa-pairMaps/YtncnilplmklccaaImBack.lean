/- A map of numbers beside a pair's books: Set, at the level of the pair. A map of numbers beside a pair's books: what was done is taken back. -/
import Derived.Test.YtncnilplmklccaaImUndo
import Derived.Test.YtncnilplmklccaaBkBack
import Derived.Deep.Light
/- A map of numbers beside a pair's books: Set, at the level of the pair. -/
namespace Go.Proofs.Ytncnilplmklccaa.Im
set_option linter.unusedSimpArgs false
set_option linter.unusedVariables false
set_option linter.unusedSectionVars false
open Go.RowKit Go.Lib
attribute [local go_sem] setCell_drewN alloc_drewN

/-- What takes Set's deed back: its boxes lie among F. -/
def UndoAt (w : World) (F : Nat → Prop) (a : Nat) (k : Int) (old : Option Int) (u : Value) : Prop :=
  ∃ h o m q : Nat, u = .func (.func 41) #[] #[.pointer (some ⟨h, 0, none⟩), .pointer (some ⟨o, 0, none⟩), .pointer (some ⟨m, 0, none⟩), .pointer (some ⟨q, 0, none⟩)] ∧ (F h ∧ F o ∧ F m ∧ F q) ∧
    w.cell? ⟨h, 0, none⟩ = some (.bool old.isSome) ∧ (∀ v, old = some v → w.cell? ⟨o, 0, none⟩ = some (.int .i64 k) ∧ w.cell? ⟨o, 1, none⟩ = some (.int .i64 v)) ∧ w.cell? ⟨m, 0, none⟩ = some (.pointer (some ⟨a, 0, none⟩)) ∧ w.cell? ⟨q, 0, none⟩ = some (.int .i64 k)
theorem UndoAt.of {w w' : World} {F : Nat → Prop} {a : Nat} {k : Int} {old : Option Int} {u : Value} (h : UndoAt w F a k old u) (hb : ∀ j, F j → w'.heap[j]? = w.heap[j]?) : UndoAt w' F a k old u := by
  obtain ⟨hh, o, m, q, e, ⟨z1, z2, z3, z4⟩, c1, c2, c3, c4⟩ := h
  have cz : ∀ k o, F k → w'.cell? ⟨k, o, none⟩ = w.cell? ⟨k, o, none⟩ := fun k o hk => World.cell?_of_block (w := w) (a := ⟨k, o, none⟩) (hb k hk)
  exact ⟨hh, o, m, q, e, ⟨z1, z2, z3, z4⟩, (cz _ _ z1).trans c1, fun v hv => ⟨(cz _ _ z2).trans (c2 v hv).1, (cz _ _ z2).trans (c2 v hv).2⟩, (cz _ _ z3).trans c3, (cz _ _ z4).trans c4⟩
/-- A pair's journal where no deed is under way: another's deed comes to it. -/
theorem jrow {W w : World} {bp : Nat} {H : Nat → Nat → List (Kk × Nm)} {N : List Int} {Fr : Nat → Prop} (p : Pr W w bp [] 0 H N Fr) :
    ∃ v, w.cell? ⟨bp, 0, none⟩ = some v ∧ w.frozen? ⟨bp, 0, none⟩ = false ∧ FRow w v [] ∧ (∀ b, v.ownBlock = some b → b ≠ bp) ∧
      ∀ w' u, Did w w' bp v ([] ++ [u]) → Pr W w' bp [u] 0 H N Fr ∧ Kp Fr w w' := by
  obtain ⟨⟨S, Z, mb, X, ds, A, bb, hP, ⟨low, stat, jS, jZ, jf, ext, ⟨v, us, r1, r2, r3, r4, r5⟩, box, map, inj, srt, mine⟩, hne, hl, hh, s1, s2⟩, good, nl, nb, flow, be⟩ := p
  obtain rfl : ds = [] := List.length_eq_zero_iff.1 hl
  obtain rfl : us = [] := List.length_eq_zero_iff.1 r4
  refine ⟨v, r1, jf 0, r2, fun b hb => (r3 b hb).2.2, fun w' u D => ?_⟩
  have zb : ∀ k, Z k → w'.heap[k]? = w.heap[k]? := fun k hk => D.block k (low k (stat k hk)) (fun e => jZ (e ▸ hk)) fun e => (r3 k e).2.1 hk
  have nb0 : ∀ k, k < w.heap.size → ¬ S k → w'.heap[k]? = w.heap[k]? := fun k hk hn => D.block k hk (fun e => hn (e ▸ jS)) fun e => hn (r3 k e).1
  obtain ⟨v', q1, q2, q3⟩ := D.row
  have hM : Mv S (fun k => S k ∨ (w.heap.size ≤ k ∧ k < w'.heap.size)) w w' := ⟨D.os, D.tape, D.output, D.size, nb0, fun k hk => hk.imp id And.left⟩
  refine ⟨⟨⟨fun k => S k ∨ (w.heap.size ≤ k ∧ k < w'.heap.size), Z, mb, X, [], A, bb, by simp, ⟨fun k hk => hk.elim (fun e => Nat.lt_of_lt_of_le (low k e) D.size) And.right, fun k hk => .inl (stat k hk), .inl jS, jZ, fun o => (D.jf o).trans (jf o), fun i u hu => (D.ext _ (by omega)).trans (ext i u hu), ⟨v', [], q1, q2, fun b hb => ?_, rfl, fun i x hx => ?_⟩, fun a ha => ?_, fun a ha => ?_, inj, srt, mine⟩, hne, rfl, fun s hs => ?_, fun k hk => ?_, fun k hk => ?_⟩, good, nl, nb, fun k hk => Nat.lt_of_lt_of_le (flow k hk) D.size, hM.below be s1⟩, D.size, fun k hk => nb0 k (flow k hk) (s2 k hk).1⟩
  · rcases q3 b hb with e | e
    · obtain ⟨p1, p2, p3⟩ := r3 b e
      exact ⟨.inl p1, p2, p3⟩
    · refine ⟨.inr e, fun hz => ?_, fun hj => ?_⟩
      · have := low b (stat b hz); omega
      · rw [hj] at e; have := low _ jS; simp only at this e; omega
  · simp at hx
  · obtain ⟨b1, b2, b3⟩ := box a ha
    exact ⟨b1, .inl b2, b3.of (zb a b1)⟩
  · refine (map a ha).of _ (D.block _ (low _ (box a ha).2.1) ((map a ha).ne r1) fun e => ?_)
    exact r2.noMap e (map a ha) rfl
  · obtain ⟨t1, t2, t3⟩ := hh s hs
    refine ⟨t1, (World.cell?_of_block (w := w) (a := ⟨bb s, 0, none⟩) (nb0 _ (cell_lt t2) t3)).trans t2, fun e => e.elim t3 fun e => ?_⟩
    have := cell_lt t2
    omega
  · rcases hk with hk | hk
    · exact s1 k hk
    · have := be.size; omega
  · refine ⟨fun e => e.elim (s2 k hk).1 fun e => ?_, (s2 k hk).2⟩
    have := flow k hk
    omega
set_option maxHeartbeats 2000000 in
theorem set_any {W w : World} {bp a bm : Nat} {H : Nat → Nat → List (Kk × Nm)} {N : List Int} {Fr : Nat → Prop} {L : Kvs} {k v : Int} (p : Pr W w bp [] 0 H N Fr) (fa : Fr a) (fm : Fr bm) (lm : W.heap.size ≤ bm) (B : MapBox w a bp bm) (hm : MapIs encS w bm L) (hL : Srt kyInt L) (hlen : L.length ≤ 1000000) (hk : (Lit.int .i64 k).wf = true) :
    Calls Try.prog 18 #[.pointer (some ⟨a, 0, none⟩), .int .i64 k, .int .i64 v] w fun e w' => e = .returned (.tuple #[]) ∧ ∃ u F, Pr W w' bp [u] 0 H N (fun j => Fr j ∨ F j) ∧ (∀ j, F j → w.heap.size ≤ j) ∧ MapIs encS w' bm (putL kyInt k v L) ∧ UndoAt w' F a k (getL k L) u ∧ Kp (fun j => Fr j ∧ j ≠ bm) w w' := by
  have hmf : ∀ (fn : Fn) (first cap : Array Value) (w : World), (Instr.makeFunc fn first cap).run Try.prog w = .ok (.func fn first cap) w := fun _ _ _ _ => rfl
  have hlm := p.low bm fm
  have HP := hide p
  have hb0 : Hid (Below w.heap.size w ((w.alloc (.cells #[.pointer (some ⟨a, 0, none⟩)] 44)).alloc (.cells #[.int .i64 k] 3))) := bAl (bAl (bMe w))
  have HF := hide (find_any (((bcell hb0.out).1 _ _ (cell_lt B.c2)).trans B.c2) (hm.of _ (hb0.out.block _ hlm)) hL hk)
  have HB := hide B
  have HM := hide hm
  have HL := hide hL
  clear p B hm hL
  go_enter Try.func18, Try.ntmps18
  go_wp2_with (first
    | (go_at_call 38; refine (findable_any _ _).mono ?_; rintro e w' ⟨rfl, rfl⟩)
    | (go_at_call 39; refine HF.out.mono ?_; clear HF; rintro e w1 ⟨rfl, hb1⟩))
  obtain ⟨w2, hw2⟩ : ∃ w2, (w1.alloc (.cells #[.int .i64 (fk k L), .int .i64 (fv k L)] 86)).alloc (.cells #[.bool (fh k L)] 4) = w2 := ⟨_, rfl⟩
  rw [hw2]
  obtain ⟨g, hg⟩ : ∃ g, w1.heap.size = g := ⟨_, rfl⟩
  obtain ⟨g0, hg0⟩ : ∃ g0, w.heap.size = g0 := ⟨_, rfl⟩
  have Z1 : Hid (g0 + 2 ≤ g ∧ w2.heap.size = g + 2) := by have := hb1.size; rw [← hw2]; refine ⟨?_, ?_⟩ <;> simp at this ⊢ <;> omega
  have B2 : Hid (Below w.heap.size w w2) := by rw [← hw2]; exact bAl (bAl (bOn hb0.out hb1))
  have P2 := hide (HP.out.add (F := fun j => j = g0 ∨ j = g0 + 1 ∨ j = g ∨ j = g + 1) B2.out (fun j hj => by have := Z1.out; omega))
  have C2 : Hid (w2.cell? ⟨g0, 0, none⟩ = some (.pointer (some ⟨a, 0, none⟩)) ∧ w2.cell? ⟨g0 + 1, 0, none⟩ = some (.int .i64 k) ∧ w2.cell? ⟨g, 0, none⟩ = some (.int .i64 (fk k L)) ∧ w2.cell? ⟨g, 1, none⟩ = some (.int .i64 (fv k L)) ∧ w2.cell? ⟨g + 1, 0, none⟩ = some (.bool (fh k L))) := by
    have hz : w.heap.size + 1 < w1.heap.size := by have := hb1.size; simp at this; omega
    have hc := bcell hb1
    subst hg hg0
    rw [← hw2]
    have e0 : w1.cell? ⟨w.heap.size, 0, none⟩ = some (.pointer (some ⟨a, 0, none⟩)) := by rw [hc.1 _ _ (by simp; omega)]; simp [go_sem]
    have e1 : w1.cell? ⟨w.heap.size + 1, 0, none⟩ = some (.int .i64 k) := by rw [hc.1 _ _ (by simp)]; simp [go_sem]
    refine ⟨?_, ?_, ?_, ?_, ?_⟩
    · exact (bcell (bAl (o := .cells #[.bool (fh k L)] 4) (bAl (bMe w1)))).1 _ _ (by omega) |>.trans e0
    · exact (bcell (bAl (o := .cells #[.bool (fh k L)] 4) (bAl (bMe w1)))).1 _ _ (by omega) |>.trans e1
    · simp [go_sem]
    · simp [go_sem]
    · simp [go_sem]
  have HG := hide hg
  have HG0 := hide hg0
  rw [hg, hg0]
  clear hb1 hw2 hg hg0 hb0
  obtain ⟨c0, c1, c2, c3, c4⟩ := C2.out
  have ca : w2.cell? ⟨a, 2, none⟩ = some (.map (some bm)) := ((bcell B2.out).1 _ _ (cell_lt HB.out.c2)).trans HB.out.c2
  have hm : MapIs encS w2 bm L := HM.out.of _ (B2.out.block _ hlm)
  have hmd : MapIs encS w2.drew bm L := hm
  obtain ⟨w3, hrun, r1, r2⟩ := hmd.put encS kyInt HL.out (by unfold maxLen; omega) (k := k) hk v
  have hg2 : w2.grownBy w3 (some bm) := grown_drew r2.grown
  have hput : (Instr.mapUpdate 82 (.map (some bm)) (.int .i64 k) (.agg #[.int .i64 k, .int .i64 v])).run Try.prog w2.drew = .ok () w3 := hrun
  have C3 : Hid (w3.cell? ⟨g0, 0, none⟩ = some (.pointer (some ⟨a, 0, none⟩)) ∧ w3.cell? ⟨g0 + 1, 0, none⟩ = some (.int .i64 k) ∧ w3.cell? ⟨g, 0, none⟩ = some (.int .i64 (fk k L)) ∧ w3.cell? ⟨g, 1, none⟩ = some (.int .i64 (fv k L)) ∧ w3.cell? ⟨g + 1, 0, none⟩ = some (.bool (fh k L)) ∧ w3.cell? ⟨a, 2, none⟩ = some (.map (some bm)) ∧ w3.cell? ⟨a, 0, none⟩ = some (.pointer (some ⟨bp, 0, none⟩))) :=
    ⟨cell_turned hm hg2 c0, cell_turned hm hg2 c1, cell_turned hm hg2 c2, cell_turned hm hg2 c3, cell_turned hm hg2 c4, cell_turned hm hg2 ca, cell_turned hm hg2 (((bcell B2.out).1 _ _ (cell_lt HB.out.c0)).trans HB.out.c0)⟩
  have P3 := hide (P2.out.turn (F := fun j => j = bm) (fun j hj => by subst hj; exact ⟨.inl fm, lm⟩) (fun j x hj hx => by subst hj; rw [hm.noCell] at hx; cases hx) hg2.size (fun j hj hn => hg2.block j hj fun e => hn (by cases e; rfl))
    (Mv.below (S := fun j => j = bm) (S' := fun j => j = bm) ⟨hg2.os, hg2.tape, hg2.output, hg2.size, fun j hj hn => hg2.block j hj fun e => hn (by cases e; rfl), fun j hj => .inl hj⟩ P2.out.be (fun j hj => by subst hj; exact lm)))
  have K3 : Hid (Kp (fun j => Fr j ∧ j ≠ bm) w w3) := ⟨Nat.le_trans B2.out.size hg2.size, fun j hj => (hg2.block j (Nat.lt_of_lt_of_le (HP.out.low j hj.1) B2.out.size) fun e => hj.2 (by cases e; rfl)).trans (B2.out.block j (HP.out.low j hj.1))⟩
  have R1 := hide r1
  clear hrun r1 r2 hmd hm hg2 c2 c3 c4
  go_region_held3 (fun w' => w'.cell? ⟨g0, 0, none⟩ = some (.pointer (some ⟨a, 0, none⟩)) ∧ w'.cell? ⟨a, 2, none⟩ = some (.map (some bm)) ∧ w'.cell? ⟨g0 + 1, 0, none⟩ = some (.int .i64 k)) (first | exact ⟨c0, ca, c1⟩ | exact ⟨C3.out.1, C3.out.2.2.2.2.2.1, C3.out.2.1⟩) (fail)
  have z1 := Z1.out
  have hg0 := HG0.out
  obtain ⟨vj, q1, q2, q3, q4, q6⟩ := jrow P3.out
  have Q6 := hide q6
  have HD := fun fn af ac => hide (did_any (fn := fn) (af := af) (ac := ac) q1 q2 q3 q4 (by simp))
  obtain ⟨d0, d1, d2, d3, d4, d5, d6⟩ := C3.out
  clear q6 q1 q2 q3 q4 z1 hg0 c0 c1 ca d1 d2 d3 d4 d5
  go_wp2_with (go_at_call 40; refine (HD _ _ _).out.mono ?_; clear HD; rintro e w4 ⟨rfl, D⟩)
  go_end0
  obtain ⟨p4, k4⟩ := Q6.out w4 _ D
  have hz := HG0.out
  refine ⟨rfl, _, _, p4, fun j hj => by have := Z1.out; omega, R1.out.of _ (k4.2 bm (.inl fm)), ?_, K3.out.trans (k4.sub fun j hj => .inl hj.1)⟩
  have cz : ∀ j o, (j = g0 ∨ j = g0 + 1 ∨ j = g ∨ j = g + 1) → w4.cell? ⟨j, o, none⟩ = w3.cell? ⟨j, o, none⟩ := fun j o hj => k4.cell (.inr hj)
  refine ⟨g + 1, g, g0, g0 + 1, rfl, ⟨by simp, by simp, by simp, by simp⟩, (cz _ _ (by simp)).trans C3.out.2.2.2.2.1, fun x hx => ?_, (cz _ _ (by simp)).trans C3.out.1, (cz _ _ (by simp)).trans C3.out.2.1⟩
  obtain ⟨e1, e2, _⟩ := fk_some (k := k) (L := L) hx
  have h1 := C3.out.2.2.1
  have h2 := C3.out.2.2.2.1
  rw [e1] at h1
  rw [e2] at h2
  exact ⟨(cz _ _ (by simp)).trans h1, (cz _ _ (by simp)).trans h2⟩
end Go.Proofs.Ytncnilplmklccaa.Im

/- A map of numbers beside a pair's books: what was done is taken back. -/
namespace Go.Proofs.Ytncnilplmklccaa.Im
set_option linter.unusedSimpArgs false
set_option linter.unusedVariables false
set_option linter.unusedSectionVars false
open Go.RowKit Go.Lib
attribute [local go_sem] setCell_drewN alloc_drewN

/-- Rows of books. -/
abbrev BKs := List (Kk × Nm)
/-- A deed of another's, alone on the row, is struck off. -/
theorem popP {w : World} {S Z : Nat → Prop} {bj : Jb} {A : List Nat} {mb : Nat → Nat} {X : Nat → BKs} {u : Value} (h : St w S Z bj A mb X []) (hP : bj.P = [u]) :
    ∃ g cap, w.cell? ⟨bj.b, 0, none⟩ = some (.slice (some ⟨g, 0, none⟩) 1 cap) ∧ (1 ≤ cap ∧ cap ≤ maxLen) ∧ w.cell? ⟨g, 0, none⟩ = some u ∧ w.frozen? ⟨g, 0, none⟩ = false ∧ w.frozen? ⟨bj.b, 0, none⟩ = false ∧ g ≠ bj.b ∧
      St ((w.setCell ⟨g, 0, none⟩ .nilFunc).setCell ⟨bj.b, 0, none⟩ (.slice (some ⟨g, 0, none⟩) 0 cap)) S Z ⟨bj.b, [], bj.E, by simp⟩ A mb X [] ∧ Mv S S w ((w.setCell ⟨g, 0, none⟩ .nilFunc).setCell ⟨bj.b, 0, none⟩ (.slice (some ⟨g, 0, none⟩) 0 cap)) := by
  obtain ⟨low, stat, jS, jZ, jf, ext, ⟨v, us, r1, r2, r3, r4, r5⟩, box, map, inj, srt, mine⟩ := h
  obtain rfl : us = [] := List.length_eq_zero_iff.1 r4
  rw [hP] at r2
  have r2' : w.ownsRow 0 1 1 v 1 [u] := r2
  rcases r2'.2 with ⟨e, h0⟩ | ⟨g, cap, cur, rfl, hB, hg, hcap, hm, hs, ht⟩
  · omega
  obtain ⟨g1, g2, g3⟩ := r3 g rfl
  have cu : w.cell? ⟨g, 0, none⟩ = some u := by rw [World.ownsRow.cellAt r2' 0 (by omega)]; rfl
  have fu := World.ownsRow.frozenAt r2' 0
  obtain ⟨w2, hw2⟩ : ∃ w2, (w.setCell ⟨g, 0, none⟩ .nilFunc).setCell ⟨bj.b, 0, none⟩ (.slice (some ⟨g, 0, none⟩) 0 cap) = w2 := ⟨_, rfl⟩
  have hz : w2.heap.size = w.heap.size := by rw [← hw2]; simp [World.setCell]
  have ho : ∀ k, k ≠ bj.b → k ≠ g → w2.heap[k]? = w.heap[k]? := fun k h1 h2 => by rw [← hw2, Below.heap_setCell _ _ _ _ h1, Below.heap_setCell _ _ _ _ h2]
  have zo : ∀ k, Z k → w2.heap[k]? = w.heap[k]? := fun k hk => ho k (fun e => jZ (e ▸ hk)) fun e => g2 (e ▸ hk)
  have cb : w2.cell? ⟨bj.b, 0, none⟩ = some (.slice (some ⟨g, 0, none⟩) 0 cap) := by rw [← hw2]; simp [go_sem, r1, Ne.symm g3, g3]
  have fb : ∀ o, w2.frozen? ⟨bj.b, o, none⟩ = false := fun o => by rw [← hw2]; simp [go_sem, jf]
  have xb : ∀ (i : Nat) v, bj.E[i]? = some v → w2.cell? ⟨bj.b, i + 1, none⟩ = some v := fun i v hv => by rw [← hw2]; simp [go_sem, ext i v hv, Ne.symm g3, g3]
  have hg2 : w2.heap[g]? = some (.cells (cur.setIfInBounds 0 .nilFunc) 1 (0, 0)) := by
    rw [← hw2, Below.heap_setCell _ _ _ _ g3]
    exact heap_setCell_same w g 0 cur _ _ hg
  have rr : FRow w2 (.slice (some ⟨g, 0, none⟩) 0 cap) ([] ++ []) := by
    refine ⟨by simp, .inr ⟨g, cap, _, rfl, hB, hg2, by simp, hm, by simpa using hs, ?_⟩⟩
    simp
  refine ⟨g, cap, r1, ⟨hcap, hm⟩, cu, fu, jf 0, g3, ?_⟩
  rw [hw2]
  refine ⟨⟨fun k hk => by rw [hz]; exact low k hk, stat, jS, jZ, fb, xb, ⟨_, [], cb, rr, fun b hb => r3 b hb, rfl, fun i x hx => by simp at hx⟩, fun a ha => ?_, fun a ha => ?_, inj, srt, mine⟩, ⟨by rw [← hw2]; rfl, by rw [← hw2]; rfl, by rw [← hw2]; rfl, by rw [hz]; exact Nat.le_refl _, fun k _ hk => ho k (fun e => hk (e ▸ jS)) fun e => hk (e ▸ g1), fun k hk => .inl hk⟩⟩
  · obtain ⟨b1, b2, b3⟩ := box a ha
    exact ⟨b1, b2, b3.of (zo a b1)⟩
  · exact (map a ha).of _ (ho _ ((map a ha).ne r1) (r2.noMap rfl (map a ha)))
/-- What a deed of the map's leaves when it is taken back. -/
theorem undo_any {w : World} {h o m q a bm : Nat} {L : Kvs} {k : Int} {old : Option Int} (c1 : w.cell? ⟨h, 0, none⟩ = some (.bool old.isSome)) (c2 : ∀ v, old = some v → w.cell? ⟨o, 0, none⟩ = some (.int .i64 k) ∧ w.cell? ⟨o, 1, none⟩ = some (.int .i64 v)) (c3 : w.cell? ⟨m, 0, none⟩ = some (.pointer (some ⟨a, 0, none⟩))) (c4 : w.cell? ⟨q, 0, none⟩ = some (.int .i64 k))
    (ca : w.cell? ⟨a, 2, none⟩ = some (.map (some bm))) (hm : MapIs encS w bm L) (hL : Srt kyInt L) (hlen : L.length ≤ 1000000) (hk : (Lit.int .i64 k).wf = true) :
    Calls Try.prog 41 #[.pointer (some ⟨h, 0, none⟩), .pointer (some ⟨o, 0, none⟩), .pointer (some ⟨m, 0, none⟩), .pointer (some ⟨q, 0, none⟩)] w fun e w' => e = .returned (.tuple #[]) ∧ MapIs encS w' bm (undoL kyInt ⟨0, k, old⟩ L) ∧ w.grownBy w' (some bm) := by
  cases old with
  | none => exact undoDel_any c1 c3 c4 ca hm hk
  | some v => exact undoPut_any c1 (c2 v rfl).1 (c2 v rfl).2 c3 c4 ca hm hL hlen hk
theorem mwide {S S' : Nat → Prop} {w w' : World} (h : Mv S S w w') (hs : ∀ k, S k → S' k) : Mv S' S' w w' := ⟨h.os, h.tape, h.output, h.size, fun k hk hn => h.block k hk fun e => hn (hs k e), fun k hk => .inl hk⟩
set_option maxHeartbeats 4000000 in
theorem back1_any {w : World} {S Z : Nat → Prop} {bj : Jb} {A : List Nat} {mb : Nat → Nat} {X : Nat → BKs} {ds : Deeds} {u : Value} {F : Nat → Prop} {a bm : Nat} {k : Int} {old : Option Int} {L : Kvs} (hs : St w S Z bj A mb X ds) (hP : bj.P = [u]) (hds : ds.length ≤ 100000) (hX : ∀ a, (X a).length ≤ 100000)
    (hu : UndoAt w F a k old u) (hF : ∀ j, F j → j < w.heap.size ∧ ¬ S j) (ca : w.cell? ⟨a, 2, none⟩ = some (.map (some bm))) (na : ¬ S a) (nm : ¬ S bm) (hm : MapIs encS w bm L) (hL : Srt kyInt L) (hlen : L.length ≤ 1000000) (hk : (Lit.int .i64 k).wf = true) :
    Calls Try.prog 36 #[.pointer (some ⟨bj.b, 0, none⟩), .int .i64 0] w fun e w' => e = .returned (.bool true) ∧ St w' S Z ⟨bj.b, [], bj.E, by simp⟩ A mb (undoN kyKey ds X) [] ∧ MapIs encS w' bm (undoL kyInt ⟨0, k, old⟩ L) ∧ Mv (fun j => S j ∨ j = bm) (fun j => S j ∨ j = bm) w w' := by
  have eP : bj.P.length = 1 := by rw [hP]; rfl
  obtain ⟨v, us, r1, r2, _, r4, _⟩ := hs.row
  obtain ⟨dl, hdl⟩ : ∃ dl, ds.length + 1 = dl := ⟨_, rfl⟩
  have e0 : (bj.P ++ us).length = dl := by rw [List.length_append, eP]; omega
  obtain ⟨p, c, hv⟩ : ∃ p c, v = .slice p dl c := by
    rcases r2.2 with ⟨e, h0⟩ | ⟨g, cap, cur, e, _⟩
    · omega
    · exact ⟨some ⟨g, 0, none⟩, cap, by rw [e, e0]⟩
  subst hv
  clear r2 r4 e0
  have HS := hide hs
  have hlen2 := fun m => hide (fun a => undoN_len (ds.drop m) X a)
  have HX := hide hX
  have HU0 := hide (And.intro hu (And.intro hF (And.intro ca (And.intro hm hL))))
  have lbm := hm.lt
  have la := cell_lt ca
  have HNN := hide (And.intro na nm)
  clear hs hX hu hF ca hm hL na nm
  have hd1 : (dl : Int) ≤ 100001 := by omega
  have hd2 : decide ((dl : Int) < 0) = false := by simp
  have hs1 : IntKind.i64.wrap ((dl : Int) - 1) = (dl : Int) - 1 := by rw [IntKind.wrap_i64]; omega
  have HDL := hide hdl
  have HE := hide (And.intro eP hP)
  clear hdl eP hP
  go_enter Try.func36, Try.ntmps36
  go_wp2
  go_loopw [5] (fun i wr => ∃ t : Nat, t ≤ dl ∧ i = .int .i64 ((t : Int) - 1) ∧ ((1 ≤ t ∧ St wr S Z bj A mb (undoN kyKey (ds.drop (t - 1)) X) (ds.take (t - 1)) ∧ Mv S S w wr) ∨ (t = 0 ∧ St wr S Z ⟨bj.b, [], bj.E, by simp⟩ A mb (undoN kyKey ds X) [] ∧ MapIs encS wr bm (undoL kyInt ⟨0, k, old⟩ L) ∧ Mv (fun j => S j ∨ j = bm) (fun j => S j ∨ j = bm) w wr))) (fun i _ => (intOf i + 1).toNat)
  case atStart =>
    have hdl := HDL.out
    exact ⟨dl, Nat.le_refl _, rfl, .inl ⟨by omega, by rw [show dl - 1 = ds.length by omega, List.drop_length, List.take_length]; exact HS.out, Mv.refl _ _⟩⟩
  case round =>
    obtain ⟨t, ht, rfl, hcase⟩ := hrel
    by_cases h2 : 2 ≤ t
    · obtain ⟨m0, rfl⟩ : ∃ m0, t = m0 + 2 := ⟨t - 2, by omega⟩
      rcases hcase with ⟨_, h4, h5⟩ | ⟨h0, _⟩
      · have hdl := HDL.out
        rw [show m0 + 2 - 1 = m0 + 1 by omega] at h4
        obtain ⟨q, hq⟩ : ∃ q, 1 + m0 = q := ⟨_, rfl⟩
        have ec : ((m0 + 2 : Nat) : Int) - 1 = (q : Int) := by omega
        have hge : (0 : Int) ≤ (q : Int) := by omega
        have hm0 : (q : Int) ≤ 100000 := by omega
        have hw0 : IntKind.i64.wrap ((q : Int) - 1) = (q : Int) - 1 := by rw [IntKind.wrap_i64]; omega
        obtain ⟨d, htk, hdr⟩ : ∃ d, ds.take (m0 + 1) = ds.take m0 ++ [d] ∧ ds.drop m0 = d :: ds.drop (m0 + 1) := ⟨ds[m0]'(by omega), by rw [List.take_succ_eq_append_getElem (by omega)], List.drop_eq_getElem_cons (by omega)⟩
        have el : (ds.take m0).length = m0 := by rw [List.length_take]; omega
        have hmine := h4.mine d (by rw [htk]; exact List.mem_append_right _ (List.mem_singleton.2 rfl))
        have hle : (undoN kyKey (ds.drop (m0 + 1)) X d.m).length ≤ 1000000 := by
          have := (hlen2 (m0 + 1)).out d.m
          have := HX.out d.m
          rw [List.length_drop] at *
          omega
        have hun : undo1 kyKey d (undoN kyKey (ds.drop (m0 + 1)) X) = undoN kyKey (ds.drop m0) X := by rw [hdr]; rfl
        rw [htk] at h4
        obtain ⟨g, cap, u1, p1, ⟨p2, _⟩, p3, p4, p5, p6, p7, p8, p9⟩ := h4.pop
        rw [HE.out.1, el, hq] at p1 p2 p3 p4 p6 p8 p9
        have P8 := hide p8
        have M9 := hide (h5.trans p9)
        have HUN := hide hun
        have HTK := hide (And.intro hmine hle)
        have HQ := hide hq
        rw [ec]
        clear h4 h5 p8 p9 hun htk hdr hmine hle hlen2 el ec r1 hdl hq
        rcases p6 with ⟨bh, bo, bm, bk, rfl, _, c1, c2, c3, c4⟩ | ⟨bo, bm, bk, v, rfl, _, e, c2, c3, c4⟩
        · have HU := hide (undoSet_st P8.out HTK.out.1 HTK.out.2 c1 c2 c3 c4)
          clear c1 c2 c3 c4 P8
          go_wp2_with (go_at_call 75; refine HU.out.mono ?_; clear HU; rintro e w3 ⟨rfl, q1, q2⟩)
          go_light
          go_roundw
          case rel => have hq := HQ.out; exact ⟨m0 + 1, by omega, by rw [← hq]; simp; omega, .inl ⟨by omega, by rw [show m0 + 1 - 1 = m0 by omega, ← HUN.out]; exact q1, M9.out.trans q2⟩⟩
          case measure => simp [intOf]
        · have HU := hide (undoDrop_st P8.out HTK.out.1 HTK.out.2 e c2 c3 c4)
          clear c2 c3 c4 P8
          go_wp2_with (go_at_call 73; refine HU.out.mono ?_; clear HU; rintro e w3 ⟨rfl, q1, q2⟩)
          go_roundw
          case rel => have hq := HQ.out; exact ⟨m0 + 1, by omega, by rw [← hq]; simp; omega, .inl ⟨by omega, by rw [show m0 + 1 - 1 = m0 by omega, ← HUN.out]; exact q1, M9.out.trans q2⟩⟩
          case measure => simp [intOf]
      · omega
    · by_cases h1 : t = 1
      · subst h1
        rcases hcase with ⟨_, h4, h5⟩ | ⟨h0, _⟩
        · have h4' : St wr S Z bj A mb (undoN kyKey ds X) [] := by simpa using h4
          obtain ⟨g, cap, p1, ⟨p2, _⟩, p3, p4, p5, p7, p8, p9⟩ := popP h4' HE.out.2
          obtain ⟨hu, hF, ca, hm, hL⟩ := HU0.out
          have m9 := h5.trans p9
          have hb2 := m9.block
          obtain ⟨bh, bo, bq, bk, he, _, c1, c2, c3, c4⟩ := hu.of fun j hj => hb2 j (hF j hj).1 (hF j hj).2
          rw [he] at p3
          have HU := hide (undo_any (old := old) c1 c2 c3 c4 ((World.cell?_of_block (w := w) (a := ⟨a, 2, none⟩) (hb2 _ la HNN.out.1)).trans ca) (hm.of _ (hb2 _ lbm HNN.out.2)) hL hlen hk)
          have P8 := hide p8
          have M9 := hide m9
          have e10 : ((1 : Nat) : Int) - 1 = 0 := rfl
          rw [e10]
          clear h4 h4' h5 p8 p9 m9 hb2 hu hF ca hm hL he c1 c2 c3 c4 hlen2 r1 e10 ht
          go_wp2_with (go_at_call 41; refine HU.out.mono ?_; clear HU; rintro e w3 ⟨rfl, q1, q2⟩)
          go_light
          go_roundw
          case rel => exact ⟨0, by omega, rfl, .inr ⟨rfl, P8.out.of q2.size (fun j hj => q2.block j (P8.out.low j hj) fun e => by cases e; exact HNN.out.2 hj), q1, (mwide M9.out fun j => .inl).trans ⟨q2.os, q2.tape, q2.output, q2.size, fun j hj hn => q2.block j hj fun e => hn (.inr (by cases e; rfl)), fun j hj => .inl hj⟩⟩⟩
          case measure => simp [intOf]
        · omega
      · obtain rfl : t = 0 := by omega
        rcases hcase with ⟨h0, _⟩ | ⟨_, h4, h5, h6⟩
        · omega
        have H4 := hide (And.intro h4 (And.intro h5 h6))
        have e10 : ((0 : Nat) : Int) - 1 = -1 := rfl
        rw [e10]
        clear h4 h5 h6 e10
        go_wp2
        go_ret
        exact ⟨rfl, H4.out⟩
/-- The pair's journal back to where it began: the map's deed, and all behind it. -/
theorem backPr_any {W w : World} {bp n a bm : Nat} {H : Nat → Nat → BKs} {N : List Int} {Fr F : Nat → Prop} {u : Value} {k : Int} {old : Option Int} {L : Kvs} (p : Pr W w bp [u] n H N Fr) (hn : n ≤ 9000) (hu : UndoAt w F a k old u) (hF : ∀ j, F j → Fr j) (fa : Fr a) (fm : Fr bm) (lm : W.heap.size ≤ bm)
    (ca : w.cell? ⟨a, 2, none⟩ = some (.map (some bm))) (hm : MapIs encS w bm L) (hL : Srt kyInt L) (hlen : L.length ≤ 1000000) (hk : (Lit.int .i64 k).wf = true) :
    Calls Try.prog 36 #[.pointer (some ⟨bp, 0, none⟩), .int .i64 0] w fun e w' => e = .returned (.bool true) ∧ Pr W w' bp [] 0 H N Fr ∧ MapIs encS w' bm (undoL kyInt ⟨0, k, old⟩ L) ∧ Kp (fun j => Fr j ∧ j ≠ bm) w w' := by
  obtain ⟨⟨S, Z, mb, X, ds, A, bb, hP, hst, hne, hl, hh, s1, s2⟩, good, nl, nb, low, be⟩ := p
  have e0 : ∀ s, s < 2 → X (A s) = H s n := fun s hs => by have := (hh s hs).1 n (Nat.le_refl n); rwa [List.drop_of_length_le (by omega)] at this
  have hmem : ∀ s, s < 2 → A s ∈ [A 1, A 0] := fun s hs => by rcases (show s = 0 ∨ s = 1 by omega) with rfl | rfl <;> simp
  refine (back1_any hst.only rfl (by omega) (fun c => ?_) hu (fun j hj => ⟨low j (hF j hj), (s2 j (hF j hj)).1⟩) ca (s2 a fa).1 (s2 bm fm).1 hm hL hlen hk).mono ?_
  · by_cases e : c ∈ [A 1, A 0]
    · simp only [e, if_true]
      simp at e
      rcases e with rfl | rfl
      · rw [e0 1 (by omega)]; have := (good 1 n (by omega) (Nat.le_refl n)).1.few; omega
      · rw [e0 0 (by omega)]; have := (good 0 n (by omega) (Nat.le_refl n)).1.few; omega
    · simp only [e, if_false]; exact Nat.zero_le _
  · rintro e w' ⟨rfl, q1, qm, q2⟩
    have hfb : ∀ j, Fr j → j ≠ bm → w'.heap[j]? = w.heap[j]? := fun j hj hn => q2.block j (low j hj) fun e => e.elim (s2 j hj).1 hn
    refine ⟨rfl, ⟨⟨S, Z, mb, _, _, A, bb, by simp, q1, hne, rfl, fun s hs => ?_, s1, s2⟩, fun s k hs hk => good s k hs (by omega), nl, nb, fun k hk => Nat.lt_of_lt_of_le (low k hk) q2.size, q2.below be fun k hk => hk.elim (s1 k) fun e => by rw [e]; exact lm⟩, qm, q2.size, fun j hj => hfb j hj.1 hj.2⟩
    obtain ⟨p1, p2, p3⟩ := hh s hs
    have nbb : bb s ≠ bm := by
      rcases (show s = 0 ∨ s = 1 by omega) with rfl | rfl
      · exact (s2 bm fm).2.1.symm
      · exact (s2 bm fm).2.2.symm
    refine ⟨fun k hk => ?_, (World.cell?_of_block (w := w) (a := ⟨bb s, 0, none⟩) (q2.block _ (cell_lt p2) fun e => e.elim p3 nbb)).trans p2, p3⟩
    obtain rfl : k = 0 := by omega
    rw [List.drop_nil, undoN_nil, ← p1 0 (by omega), List.drop_zero]
    exact undoN_at _ _ _ _ (by simp only [hmem s hs, if_true])
end Go.Proofs.Ytncnilplmklccaa.Im
