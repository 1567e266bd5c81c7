/- A map of numbers beside a pair's books: Set, at the level of the pair. -/
import Derived.Test.YtncnilplmklccaaImUndo
namespace Go.Proofs.Ytncnilplmklccaa.Im
set_option linter.unusedSimpArgs false
set_option linter.unusedVariables false
set_option linter.unusedSectionVars false
open Go.RowKit Go.Lib
attribute [local go_sem] setCell_drewN alloc_drewN

/-- What takes Set's deed back: its boxes lie among F. -/
def UndoAt (w : World) (F : Nat → Prop) (a : Nat) (k : Int) (old : Option Int) (u : Value) : Prop :=
  ∃ h o m q : Nat, u = .func (.func 41) #[] #[.pointer (some ⟨h, 0, none⟩), .pointer (some ⟨o, 0, none⟩), .pointer (some ⟨m, 0, none⟩), .pointer (some ⟨q, 0, none⟩)] ∧ (F h ∧ F o ∧ F m ∧ F q) ∧
    w.cell? ⟨h, 0, none⟩ = some (.bool old.isSome) ∧ (∀ v, old = some v → w.cell? ⟨o, 0, none⟩ = some (.int .i64 k) ∧ w.cell? ⟨o, 1, none⟩ = some (.int .i64 v)) ∧ w.cell? ⟨m, 0, none⟩ = some (.pointer (some ⟨a, 0, none⟩)) ∧ w.cell? ⟨q, 0, none⟩ = some (.int .i64 k)
theorem UndoAt.of {w w' : World} {F : Nat → Prop} {a : Nat} {k : Int} {old : Option Int} {u : Value} (h : UndoAt w F a k old u) (hb : ∀ j, F j → w'.heap[j]? = w.heap[j]?) : UndoAt w' F a k old u := by
  obtain ⟨hh, o, m, q, e, ⟨z1, z2, z3, z4⟩, c1, c2, c3, c4⟩ := h
  have cz : ∀ k o, F k → w'.cell? ⟨k, o, none⟩ = w.cell? ⟨k, o, none⟩ := fun k o hk => World.cell?_of_block (w := w) (a := ⟨k, o, none⟩) (hb k hk)
  exact ⟨hh, o, m, q, e, ⟨z1, z2, z3, z4⟩, (cz _ _ z1).trans c1, fun v hv => ⟨(cz _ _ z2).trans (c2 v hv).1, (cz _ _ z2).trans (c2 v hv).2⟩, (cz _ _ z3).trans c3, (cz _ _ z4).trans c4⟩
/-- A pair's journal where no deed is under way: another's deed comes to it. -/
theorem jrow {W w : World} {bp : Nat} {H : Nat → Nat → List (Kk × Nm)} {N : List Int} {Fr : Nat → Prop} (p : Pr W w bp [] 0 H N Fr) :
    ∃ v, w.cell? ⟨bp, 0, none⟩ = some v ∧ w.frozen? ⟨bp, 0, none⟩ = false ∧ FRow w v [] ∧ (∀ b, v.ownBlock = some b → b ≠ bp) ∧
      ∀ w' u, Did w w' bp v ([] ++ [u]) → Pr W w' bp [u] 0 H N Fr ∧ Kp Fr w w' := by
  obtain ⟨⟨S, Z, mb, X, ds, A, bb, hP, ⟨low, stat, jS, jZ, jf, ext, ⟨v, us, r1, r2, r3, r4, r5⟩, box, map, inj, srt, mine⟩, hne, hl, hh, s1, s2⟩, good, nl, nb, flow, be⟩ := p
  obtain rfl : ds = [] := List.length_eq_zero_iff.1 hl
  obtain rfl : us = [] := List.length_eq_zero_iff.1 r4
  refine ⟨v, r1, jf 0, r2, fun b hb => (r3 b hb).2.2, fun w' u D => ?_⟩
  have zb : ∀ k, Z k → w'.heap[k]? = w.heap[k]? := fun k hk => D.block k (low k (stat k hk)) (fun e => jZ (e ▸ hk)) fun e => (r3 k e).2.1 hk
  have nb0 : ∀ k, k < w.heap.size → ¬ S k → w'.heap[k]? = w.heap[k]? := fun k hk hn => D.block k hk (fun e => hn (e ▸ jS)) fun e => hn (r3 k e).1
  obtain ⟨v', q1, q2, q3⟩ := D.row
  have hM : Mv S (fun k => S k ∨ (w.heap.size ≤ k ∧ k < w'.heap.size)) w w' := ⟨D.os, D.tape, D.output, D.size, nb0, fun k hk => hk.imp id And.left⟩
  refine ⟨⟨⟨fun k => S k ∨ (w.heap.size ≤ k ∧ k < w'.heap.size), Z, mb, X, [], A, bb, by simp, ⟨fun k hk => hk.elim (fun e => Nat.lt_of_lt_of_le (low k e) D.size) And.right, fun k hk => .inl (stat k hk), .inl jS, jZ, fun o => (D.jf o).trans (jf o), fun i u hu => (D.ext _ (by omega)).trans (ext i u hu), ⟨v', [], q1, q2, fun b hb => ?_, rfl, fun i x hx => ?_⟩, fun a ha => ?_, fun a ha => ?_, inj, srt, mine⟩, hne, rfl, fun s hs => ?_, fun k hk => ?_, fun k hk => ?_⟩, good, nl, nb, fun k hk => Nat.lt_of_lt_of_le (flow k hk) D.size, hM.below be s1⟩, D.size, fun k hk => nb0 k (flow k hk) (s2 k hk).1⟩
  · rcases q3 b hb with e | e
    · obtain ⟨p1, p2, p3⟩ := r3 b e
      exact ⟨.inl p1, p2, p3⟩
    · refine ⟨.inr e, fun hz => ?_, fun hj => ?_⟩
      · have := low b (stat b hz); omega
      · rw [hj] at e; have := low _ jS; simp only at this e; omega
  · simp at hx
  · obtain ⟨b1, b2, b3⟩ := box a ha
    exact ⟨b1, .inl b2, b3.of (zb a b1)⟩
  · refine (map a ha).of _ (D.block _ (low _ (box a ha).2.1) ((map a ha).ne r1) fun e => ?_)
    exact r2.noMap e (map a ha) rfl
  · obtain ⟨t1, t2, t3⟩ := hh s hs
    refine ⟨t1, (World.cell?_of_block (w := w) (a := ⟨bb s, 0, none⟩) (nb0 _ (cell_lt t2) t3)).trans t2, fun e => e.elim t3 fun e => ?_⟩
    have := cell_lt t2
    omega
  · rcases hk with hk | hk
    · exact s1 k hk
    · have := be.size; omega
  · refine ⟨fun e => e.elim (s2 k hk).1 fun e => ?_, (s2 k hk).2⟩
    have := flow k hk
    omega
set_option maxHeartbeats 2000000 in
theorem set_any {W w : World} {bp a bm : Nat} {H : Nat → Nat → List (Kk × Nm)} {N : List Int} {Fr : Nat → Prop} {L : Kvs} {k v : Int} (p : Pr W w bp [] 0 H N Fr) (fa : Fr a) (fm : Fr bm) (lm : W.heap.size ≤ bm) (B : MapBox w a bp bm) (hm : MapIs encS w bm L) (hL : Srt kyInt L) (hlen : L.length ≤ 1000000) (hk : (Lit.int .i64 k).wf = true) :
    Calls Try.prog 18 #[.pointer (some ⟨a, 0, none⟩), .int .i64 k, .int .i64 v] w fun e w' => e = .returned (.tuple #[]) ∧ ∃ u F, Pr W w' bp [u] 0 H N (fun j => Fr j ∨ F j) ∧ (∀ j, F j → w.heap.size ≤ j) ∧ MapIs encS w' bm (putL kyInt k v L) ∧ UndoAt w' F a k (getL k L) u ∧ Kp (fun j => Fr j ∧ j ≠ bm) w w' := by
  have hmf : ∀ (fn : Fn) (first cap : Array Value) (w : World), (Instr.makeFunc fn first cap).run Try.prog w = .ok (.func fn first cap) w := fun _ _ _ _ => rfl
  have hlm := p.low bm fm
  have HP := hide p
  have hb0 : Hid (Below w.heap.size w ((w.alloc (.cells #[.pointer (some ⟨a, 0, none⟩)] 44)).alloc (.cells #[.int .i64 k] 3))) := bAl (bAl (bMe w))
  have HF := hide (find_any (((bcell hb0.out).1 _ _ (cell_lt B.c2)).trans B.c2) (hm.of _ (hb0.out.block _ hlm)) hL hk)
  have HB := hide B
  have HM := hide hm
  have HL := hide hL
  clear p B hm hL
  go_enter Try.func18, Try.ntmps18
  go_wp2_with (first
    | (go_at_call 38; refine (findable_any _ _).mono ?_; rintro e w' ⟨rfl, rfl⟩)
    | (go_at_call 39; refine HF.out.mono ?_; clear HF; rintro e w1 ⟨rfl, hb1⟩))
  obtain ⟨w2, hw2⟩ : ∃ w2, (w1.alloc (.cells #[.int .i64 (fk k L), .int .i64 (fv k L)] 86)).alloc (.cells #[.bool (fh k L)] 4) = w2 := ⟨_, rfl⟩
  rw [hw2]
  obtain ⟨g, hg⟩ : ∃ g, w1.heap.size = g := ⟨_, rfl⟩
  obtain ⟨g0, hg0⟩ : ∃ g0, w.heap.size = g0 := ⟨_, rfl⟩
  have Z1 : Hid (g0 + 2 ≤ g ∧ w2.heap.size = g + 2) := by have := hb1.size; rw [← hw2]; refine ⟨?_, ?_⟩ <;> simp at this ⊢ <;> omega
  have B2 : Hid (Below w.heap.size w w2) := by rw [← hw2]; exact bAl (bAl (bOn hb0.out hb1))
  have P2 := hide (HP.out.add (F := fun j => j = g0 ∨ j = g0 + 1 ∨ j = g ∨ j = g + 1) B2.out (fun j hj => by have := Z1.out; omega))
  have C2 : Hid (w2.cell? ⟨g0, 0, none⟩ = some (.pointer (some ⟨a, 0, none⟩)) ∧ w2.cell? ⟨g0 + 1, 0, none⟩ = some (.int .i64 k) ∧ w2.cell? ⟨g, 0, none⟩ = some (.int .i64 (fk k L)) ∧ w2.cell? ⟨g, 1, none⟩ = some (.int .i64 (fv k L)) ∧ w2.cell? ⟨g + 1, 0, none⟩ = some (.bool (fh k L))) := by
    have hz : w.heap.size + 1 < w1.heap.size := by have := hb1.size; simp at this; omega
    have hc := bcell hb1
    subst hg hg0
    rw [← hw2]
    have e0 : w1.cell? ⟨w.heap.size, 0, none⟩ = some (.pointer (some ⟨a, 0, none⟩)) := by rw [hc.1 _ _ (by simp; omega)]; simp [go_sem]
    have e1 : w1.cell? ⟨w.heap.size + 1, 0, none⟩ = some (.int .i64 k) := by rw [hc.1 _ _ (by simp)]; simp [go_sem]
    refine ⟨?_, ?_, ?_, ?_, ?_⟩
    · exact (bcell (bAl (o := .cells #[.bool (fh k L)] 4) (bAl (bMe w1)))).1 _ _ (by omega) |>.trans e0
    · exact (bcell (bAl (o := .cells #[.bool (fh k L)] 4) (bAl (bMe w1)))).1 _ _ (by omega) |>.trans e1
    · simp [go_sem]
    · simp [go_sem]
    · simp [go_sem]
  have HG := hide hg
  have HG0 := hide hg0
  rw [hg, hg0]
  clear hb1 hw2 hg hg0 hb0
  obtain ⟨c0, c1, c2, c3, c4⟩ := C2.out
  have ca : w2.cell? ⟨a, 2, none⟩ = some (.map (some bm)) := ((bcell B2.out).1 _ _ (cell_lt HB.out.c2)).trans HB.out.c2
  have hm : MapIs encS w2 bm L := HM.out.of _ (B2.out.block _ hlm)
  have hmd : MapIs encS w2.drew bm L := hm
  obtain ⟨w3, hrun, r1, r2⟩ := hmd.put encS kyInt HL.out (by unfold maxLen; omega) (k := k) hk v
  have hg2 : w2.grownBy w3 (some bm) := grown_drew r2.grown
  have hput : (Instr.mapUpdate 82 (.map (some bm)) (.int .i64 k) (.agg #[.int .i64 k, .int .i64 v])).run Try.prog w2.drew = .ok () w3 := hrun
  have C3 : Hid (w3.cell? ⟨g0, 0, none⟩ = some (.pointer (some ⟨a, 0, none⟩)) ∧ w3.cell? ⟨g0 + 1, 0, none⟩ = some (.int .i64 k) ∧ w3.cell? ⟨g, 0, none⟩ = some (.int .i64 (fk k L)) ∧ w3.cell? ⟨g, 1, none⟩ = some (.int .i64 (fv k L)) ∧ w3.cell? ⟨g + 1, 0, none⟩ = some (.bool (fh k L)) ∧ w3.cell? ⟨a, 2, none⟩ = some (.map (some bm)) ∧ w3.cell? ⟨a, 0, none⟩ = some (.pointer (some ⟨bp, 0, none⟩))) :=
    ⟨cell_turned hm hg2 c0, cell_turned hm hg2 c1, cell_turned hm hg2 c2, cell_turned hm hg2 c3, cell_turned hm hg2 c4, cell_turned hm hg2 ca, cell_turned hm hg2 (((bcell B2.out).1 _ _ (cell_lt HB.out.c0)).trans HB.out.c0)⟩
  have P3 := hide (P2.out.turn (F := fun j => j = bm) (fun j hj => by subst hj; exact ⟨.inl fm, lm⟩) (fun j x hj hx => by subst hj; rw [hm.noCell] at hx; cases hx) hg2.size (fun j hj hn => hg2.block j hj fun e => hn (by cases e; rfl))
    (Mv.below (S := fun j => j = bm) (S' := fun j => j = bm) ⟨hg2.os, hg2.tape, hg2.output, hg2.size, fun j hj hn => hg2.block j hj fun e => hn (by cases e; rfl), fun j hj => .inl hj⟩ P2.out.be (fun j hj => by subst hj; exact lm)))
  have K3 : Hid (Kp (fun j => Fr j ∧ j ≠ bm) w w3) := ⟨Nat.le_trans B2.out.size hg2.size, fun j hj => (hg2.block j (Nat.lt_of_lt_of_le (HP.out.low j hj.1) B2.out.size) fun e => hj.2 (by cases e; rfl)).trans (B2.out.block j (HP.out.low j hj.1))⟩
  have R1 := hide r1
  clear hrun r1 r2 hmd hm hg2 c2 c3 c4
  go_region_held3 (fun w' => w'.cell? ⟨g0, 0, none⟩ = some (.pointer (some ⟨a, 0, none⟩)) ∧ w'.cell? ⟨a, 2, none⟩ = some (.map (some bm)) ∧ w'.cell? ⟨g0 + 1, 0, none⟩ = some (.int .i64 k)) (first | exact ⟨c0, ca, c1⟩ | exact ⟨C3.out.1, C3.out.2.2.2.2.2.1, C3.out.2.1⟩) (fail)
  have z1 := Z1.out
  have hg0 := HG0.out
  obtain ⟨vj, q1, q2, q3, q4, q6⟩ := jrow P3.out
  have Q6 := hide q6
  have HD := fun fn af ac => hide (did_any (fn := fn) (af := af) (ac := ac) q1 q2 q3 q4 (by simp))
  obtain ⟨d0, d1, d2, d3, d4, d5, d6⟩ := C3.out
  clear q6 q1 q2 q3 q4 z1 hg0 c0 c1 ca d1 d2 d3 d4 d5
  go_wp2_with (go_at_call 40; refine (HD _ _ _).out.mono ?_; clear HD; rintro e w4 ⟨rfl, D⟩)
  go_end0
  obtain ⟨p4, k4⟩ := Q6.out w4 _ D
  have hz := HG0.out
  refine ⟨rfl, _, _, p4, fun j hj => by have := Z1.out; omega, R1.out.of _ (k4.2 bm (.inl fm)), ?_, K3.out.trans (k4.sub fun j hj => .inl hj.1)⟩
  have cz : ∀ j o, (j = g0 ∨ j = g0 + 1 ∨ j = g ∨ j = g + 1) → w4.cell? ⟨j, o, none⟩ = w3.cell? ⟨j, o, none⟩ := fun j o hj => k4.cell (.inr hj)
  refine ⟨g + 1, g, g0, g0 + 1, rfl, ⟨by simp, by simp, by simp, by simp⟩, (cz _ _ (by simp)).trans C3.out.2.2.2.2.1, fun x hx => ?_, (cz _ _ (by simp)).trans C3.out.1, (cz _ _ (by simp)).trans C3.out.2.1⟩
  obtain ⟨e1, e2, _⟩ := fk_some (k := k) (L := L) hx
  have h1 := C3.out.2.2.1
  have h2 := C3.out.2.2.2.1
  rw [e1] at h1
  rw [e2] at h2
  exact ⟨(cz _ _ (by simp)).trans h1, (cz _ _ (by simp)).trans h2⟩
end Go.Proofs.Ytncnilplmklccaa.Im
